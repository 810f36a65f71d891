/-
  La: Entry2 Entry3 Entry4 Entry5 Entry6.
-/
import Derived.Deep.DeepFit
import Derived.Test.YtnipbplghijdmaaGreatDoorLa13
namespace Go.Proofs.YtnipbplghijdmaaGreatDoor
open Go.RowKit Go.Maps Go.WideShapes
set_option linter.unusedVariables false
theorem X7 (b o j : Nat) : (⟨b, o, none⟩ : Addr).add j = ⟨b, o + j, none⟩ := by unfold Addr.add; split <;> simp_all
theorem Chs.at {w : World} {p : Option Addr} {c : Nat} {l : List Ref.Ch} (h : Chs w (.slice p l.length c) l) {k : Nat} (hk : k < l.length) :
   ∃ b o, p = some ⟨b, o, none⟩ ∧ w.cell? ⟨b, o + k * 3, none⟩ = some (jc l[k].key) ∧ w.cell? ⟨b, o + k * 3 + 1, none⟩ = some (jc l[k].value) ∧ w.cell? ⟨b, o + k * 3 + 2, none⟩ = some (.bool l[k].gone) := by
 obtain ⟨p', c', e, h1, h2, h3, h4⟩ := h
 cases e
 cases p with
 | none => have := h3 rfl; omega
 | some ad =>
   obtain ⟨b, o, s⟩ := ad
   obtain ⟨hs, hc⟩ := h4 _ rfl
   simp only at hs
   subst hs
   obtain ⟨c0, c1, c2⟩ := Md hk
   refine ⟨b, o, rfl, ?_, ?_, ?_⟩
   · have := hc _ _ c0; rwa [X7] at this
   · have := hc _ _ c1; rwa [X7] at this
   · have := hc _ _ c2; rwa [X7] at this
theorem Lp {l : List Ref.Ch} {k : Nat} (h : k < l.length) : (l.take (k + 1)).flatMap Ref.entry = (l.take k).flatMap Ref.entry ++ Ref.entry l[k] := by
 rw [List.take_succ_eq_append_getElem h]
 simp only [List.flatMap_append, List.flatMap_cons, List.flatMap_nil, List.append_nil]
theorem Gq {c : Ref.Ch} (hk : c.key.length < 1048576) (hv : c.value.length < 1048576) : (Ref.entry c).length < 2097160 := by
 unfold Ref.entry
 split <;> simp [Ref.text, Ref.jk] <;> omega
theorem Lr {l : List Ref.Ch} (h : ∀ c ∈ l, c.key.length < 1048576 ∧ c.value.length < 1048576) : (l.flatMap Ref.entry).length ≤ 2097160 * l.length := by
 induction l with
 | nil => simp
 | cons c r ih =>
   have h1 := Gq (h c List.mem_cons_self).1 (h c List.mem_cons_self).2
   have h2 := ih (fun x hx => h x (List.mem_cons_of_mem _ hx))
   simp only [List.flatMap_cons, List.length_append, List.length_cons]
   omega
set_option maxHeartbeats 400000 in
set_option maxRecDepth 100000 in
theorem gp (v ev : Value) (m : Nat) (xs : List UInt8) (l : List Ref.Ch) (base : Nat) (w : World) (hm : xs.length = m) (hl : m < 1048576) (hle : l.length ≤ 255) (hs : ∀ c ∈ l, c.key.length < 1048576 ∧ c.value.length < 1048576) (hbase : base ≤ w.heap.size)
   (hrow : w.ownsRow base 5 1 v m (xs.map qg)) (hev : Chs w ev l) (hap : l ≠ [] → ∀ p n c, ev = .slice (some p) n c → ¬ some p.block = v.ownBlock) :
   Calls Tryz.prog 106 #[v, ev] w fun e w' => ∃ p c, e = .returned (.slice p (m + 1 + (l.flatMap Ref.entry).length) c) ∧
     w'.ownsRow base 5 1 (.slice p (m + 1 + (l.flatMap Ref.entry).length) c) (m + 1 + (l.flatMap Ref.entry).length) ((xs ++ (Ref.big l.length 1 ++ l.flatMap Ref.entry)).map qg) ∧ Grown w v w' (.slice p (m + 1 + (l.flatMap Ref.entry).length) c) := by
 obtain ⟨p0, c0, rfl⟩ := jh hrow
 obtain ⟨j0, hj, hy0, hy1, hy2⟩ := info_parts Tryz.Ap
 obtain ⟨pe, ce, rfl, _⟩ := id hev
 have hby : ((l.length : Int) % 256) = ((UInt8.ofNat (l.length % 256)).toNat : Int) := by
   have h2 : (UInt8.ofNat (l.length % 256)).toNat = l.length % 256 := by simp [UInt8.toNat_ofNat']
   rw [h2]
   omega
 have HB := hide hby
 clear hby
 have hmod : (l.length : Int) % 256 = (l.length : Int) := by omega
 have hown' := hrow.alloc (.cells #[.int .u8 (l.length : Int)] 5)
 have h1 : ∀ u ∈ [Value.int .u8 (l.length : Int)], u.oneCell' = true := by intro u hu; simp at hu; subst hu; rfl
 have h63 : Hid (m + 1 ≤ maxLen) := by unfold Hid maxLen; omega
 have hbs : Hid ((m + 1) * 1 ≤ 140737488355328) := by unfold Hid; omega
 have hb : base ≤ (w.alloc (.cells #[.int .u8 (l.length : Int)] 5)).heap.size := by simp; omega
 go_enter Tryz.func106, Tryz.ntmps106
 go_wp2_with (first
   | (at_builtin; refine jm _ rfl (.tmp 7) (.tmp 11) 84 rfl base 5 j0 (.int .u8 0) 1 1 Tryz.underlying84 hj hy0 hy1 hy2 rfl (by decide) _ _ _ rfl hown' ⟨w.heap.size, 0, none⟩ 1 1 [.int .u8 (l.length : Int)] rfl rfl (cell_one_new _ _ _) h1 h63.out hbs.out hb ?_; intro p3 cp3 w3 hown3 hg3 hloc3)
   | go_in)
 have gr3 : Grown w (.slice p0 m c0) w3 (.slice p3 (m + 1) cp3) := Grown.trans (Grown.of (ja.alloc w _ _) _) (Grown.grown hg3 hloc3)
 have hx3 : xs.map qg ++ [.int .u8 (l.length : Int)] = (xs ++ (Ref.big l.length 1 ++ (l.take 0).flatMap Ref.entry)).map qg := by
   rw [← hmod, HB.out, Ref.Bj]
   simp
 rw [hx3] at hown3
 clear hx3 hmod hown' h1 hb
 go_loopw [0, 15] (fun b i wr => ∃ (k : Nat) (p : Option Addr) (c : Nat), k ≤ l.length ∧ i = .int .i64 k ∧ b = .slice p (m + 1 + ((l.take k).flatMap Ref.entry).length) c ∧
     wr.ownsRow base 5 1 (.slice p (m + 1 + ((l.take k).flatMap Ref.entry).length) c) (m + 1 + ((l.take k).flatMap Ref.entry).length) ((xs ++ (Ref.big l.length 1 ++ (l.take k).flatMap Ref.entry)).map qg) ∧
     Grown w (.slice p0 m c0) wr (.slice p (m + 1 + ((l.take k).flatMap Ref.entry).length) c))
   (fun _ i _ => l.length - (intOf i).toNat)
 case atStart => exact ⟨0, p3, cp3, Nat.zero_le _, rfl, rfl, hown3, gr3⟩
 case round =>
   obtain ⟨k, p, c, hk, rfl, rfl, hown, hgr⟩ := hrel
   rcases Nat.lt_or_ge k l.length with hlt | hge
   · have hevr : Chs wr (.slice pe l.length ce) l := hev.keep hgr.keeps (fun hl p n c e h => hap hl p n c e h)
     obtain ⟨b, o, rfl, e0, e1, e2⟩ := hevr.at hlt
     have hfs := Lr (l := l.take k) (fun c hc => hs c (List.mem_of_mem_take hc))
     have hlk : (l.take k).length = k := by simp; omega
     rw [hlk] at hfs
     have hsk := hs l[k] (List.getElem_mem hlt)
     have hstep := Lp hlt
     have HS := hide hstep
     clear hstep hlk
     have hXl : (xs ++ (Ref.big l.length 1 ++ (l.take k).flatMap Ref.entry)).length = m + 1 + ((l.take k).flatMap Ref.entry).length := by simp only [List.length_append, Ref.jk]; omega
     have HX := hide hXl
     clear hXl
     have hEk := Gq hsk.1 hsk.2
     generalize (l.take k).flatMap Ref.entry = F at hown hgr hfs HS HX ⊢
     have hownA := hown.alloc (.cells #[jc l[k].key, jc l[k].value, .bool l[k].gone] 88)
     have hbA : base ≤ (wr.alloc (.cells #[jc l[k].key, jc l[k].value, .bool l[k].gone] 88)).heap.size := by have := hgr.keeps.size; simp; omega
     have hmN : m + 1 + F.length < 549755813888 := by omega
     have gA : Grown wr (.slice p (m + 1 + F.length) c) (wr.alloc (.cells #[jc l[k].key, jc l[k].value, .bool l[k].gone] 88)) (.slice p (m + 1 + F.length) c) := Grown.of (ja.alloc wr _ _) _
     go_wp2_with (go_at_call 151; refine (Hz (.slice p (m + 1 + F.length) c) _ _ l[k] base _ HX.out hmN hsk.1 hsk.2 hbA hownA).mono ?_; rintro e w' ⟨p4, c4, rfl, hown4, hgr4⟩)
     have e5 : m + 1 + F.length + (Ref.entry l[k]).length = m + 1 + ((l.take (k + 1)).flatMap Ref.entry).length := by rw [HS.out, List.length_append]; omega
     have e6 : xs ++ (Ref.big l.length 1 ++ F) ++ Ref.entry l[k] = xs ++ (Ref.big l.length 1 ++ (l.take (k + 1)).flatMap Ref.entry) := by rw [HS.out]; simp only [List.append_assoc]
     rw [e5] at hown4 hgr4 ⊢
     rw [e6] at hown4
     exact ⟨⟨k + 1, p4, c4, by omega, by simp, rfl, hown4, hgr.trans (gA.trans hgr4)⟩, by simp [intOf]; omega⟩
   · have ek : k = l.length := by omega
     subst ek
     rw [List.take_length] at hown hgr ⊢
     go_wp2
     go_ret
     exact ⟨p, c, rfl, hown, hgr⟩
set_option maxHeartbeats 400000 in
set_option maxRecDepth 100000 in
theorem jc6 (n : Nat) (ev : Value) (l : List Ref.Ch) (w : World) (hn : n < 9223372036854775808) (hle : l.length ≤ 255) (hs : ∀ c ∈ l, c.key.length < 1048576 ∧ c.value.length < 1048576) (hev : Chs w ev l) :
   Calls Tryz.prog 64 #[.int .i64 n, ev] w fun e w' => ∃ p c, e = .returned (.slice p (Ref.j5 n l).length c) ∧
     w'.ownsRow w.heap.size 5 1 (.slice p (Ref.j5 n l).length c) (Ref.j5 n l).length ((Ref.j5 n l).map qg) ∧ ja w w' (fun _ => False) := by
 obtain ⟨pe, ce, rfl, _⟩ := id hev
 have hcv : (n : Int) % 18446744073709551616 = (n : Int) := by omega
 have hfs := Lr hs
 go_enter Tryz.func64, Tryz.ntmps64
 go_wp2_with fail
 refine (zw (.slice none 0 0) 0 [] n 8 w.heap.size w rfl (by omega) (by omega) (by omega) (Nat.le_refl _) (World.ownsRow_nil _ _ _ _)).mono ?_
 rintro e w1 ⟨p1, c1, rfl, hown1, hgr1⟩
 have k1 := hgr1.new rfl
 simp only [List.nil_append, Nat.zero_add] at hown1 hgr1 ⊢
 have hap : l ≠ [] → ∀ p n c, Value.slice pe l.length ce = .slice (some p) n c → ¬ some p.block = (Value.slice p1 8 c1).ownBlock := by
   intro hl p n c e h
   cases e
   have hg := (hown1.lt _ h.symm).1
   have := hev.lt hl
   omega
 go_wp2_with fail
 refine (gp (.slice p1 8 c1) (.slice pe l.length ce) 8 (Ref.big n 8) l w.heap.size w1 (Ref.jk _ _) (by omega) hle hs k1.size hown1 (hev.same k1) hap).mono ?_
 rintro e w2 ⟨p2, c2, rfl, hown2, hgr2⟩
 have gr2 := hgr1.trans hgr2
 have k2 := gr2.new rfl
 have hl2 : (Ref.big n 8 ++ (Ref.big l.length 1 ++ l.flatMap Ref.entry)).length = 8 + 1 + (l.flatMap Ref.entry).length := by simp only [List.length_append, Ref.jk]; omega
 generalize hF : Ref.big n 8 ++ (Ref.big l.length 1 ++ l.flatMap Ref.entry) = F at hown2 hl2
 rw [← hl2] at hown2 ⊢
 have hB : Ref.j5 n l = Ref.frame F := by rw [← hF]; simp [Ref.j5]
 have hbl : (Ref.j5 n l).length = 8 + F.length := by rw [hB]; simp [Ref.frame, Ref.jk]; omega
 have HB := hide hB
 have HL := hide hbl
 clear hB hbl hF
 have hFl : F.length < 1099511627776 := by omega
 clear hl2
 go_wp2_with fail
 refine (mr _ F w2 (bytes_of_row hown2) hFl).mono ?_
 rintro e w3 ⟨p3, c3, rfl, hown3, k3⟩
 go_wp2
 go_ret
 rw [HL.out, HB.out]
 exact ⟨p3, c3, rfl, xx hown3 k2.size, k2.trans k3 (fun _ _ h => h)⟩
set_option maxHeartbeats 400000 in
set_option maxRecDepth 100000 in
theorem F6 (ev : Value) (l : List Ref.Ch) (w : World) (hev : Chs w ev l) (hl : l.length < 1099511627776) (hs : ∀ c ∈ l, c.key.length < 1099511627776 ∧ c.value.length < 1099511627776) :
   Calls Tryz.prog 61 #[ev] w fun e w' => e = .returned (.bool (Ref.Ji l)) ∧ ja w w' (fun _ => False) := by
 obtain ⟨pe, ce, rfl, _⟩ := id hev
 have hO : Hid (Ref.Ji l = (decide (1 ≤ l.length) && decide (l.length ≤ 8) && l.all Ref.allowed)) := rfl
 rcases Nat.lt_or_ge l.length 1 with h1 | h1
 · go_enter Tryz.func61, Tryz.ntmps61
   go_wp2
   go_ret
   refine ⟨?_, ja.refl _ _⟩
   rw [hO.out]
   simp [show ¬ 1 ≤ l.length by omega]
 rcases Nat.lt_or_ge 8 l.length with h8 | h8
 · go_enter Tryz.func61, Tryz.ntmps61
   go_wp2
   go_ret
   refine ⟨?_, ja.refl _ _⟩
   rw [hO.out]
   simp [show ¬ l.length ≤ 8 by omega]
 have hO2 : Hid (Ref.Ji l = l.all Ref.allowed) := by
   unfold Hid
   rw [hO.out]
   simp [h1, h8]
 clear hO
 go_enter Tryz.func61, Tryz.ntmps61
 go_wp2_with fail
 go_loopw [15] (fun i wr => ∃ (k : Nat), k ≤ l.length ∧ i = .int .i64 k ∧ (∀ c ∈ l.take k, Ref.allowed c = true) ∧ ja w wr (fun _ => False))
   (fun i _ => l.length - (intOf i).toNat)
 case atStart => exact ⟨0, Nat.zero_le _, rfl, (fun c hc => by cases hc), ja.refl _ _⟩
 case round =>
   obtain ⟨k, hk, rfl, hall, hkw⟩ := hrel
   have HA := hide hall
   clear hall
   rcases Nat.lt_or_ge k l.length with hlt | hge
   · have hevr := hev.same hkw
     obtain ⟨b, o, rfl, e0, e1, e2⟩ := hevr.at hlt
     have hsk := hs l[k] (List.getElem_mem hlt)
     have hq : Ref.allowed l[k] = true ∨ Ref.allowed l[k] = false := by cases Ref.allowed l[k] <;> simp
     rcases hq with hq | hq
     all_goals
       go_wp2_with (go_at_call 101; refine (Zf l[k] hsk.1 hsk.2 _).mono ?_; rintro e w' ⟨rfl, k2⟩; rw [hq])
     · refine ⟨⟨k + 1, by omega, by simp, ?_, (hkw.more _).trans k2 (fun _ _ h => h)⟩, by simp [intOf]; omega⟩
       rw [List.take_succ_eq_append_getElem hlt]
       intro c hc
       rcases List.mem_append.1 hc with hc | hc
       · exact HA.out c hc
       · rw [List.mem_singleton.1 hc]; exact hq
     · go_ret
       refine ⟨?_, (hkw.more _).trans k2 (fun _ _ h => h)⟩
       rw [hO2.out]
       have : l.all Ref.allowed = false := List.all_eq_false.2 ⟨l[k], List.getElem_mem hlt, by simp [hq]⟩
       rw [this]
       rfl
   · have ek : k = l.length := by omega
     subst ek
     go_wp2
     go_ret
     refine ⟨?_, hkw⟩
     rw [hO2.out]
     have : l.all Ref.allowed = true := List.all_eq_true.2 (fun c hc => HA.out c (by rw [List.take_length]; exact hc))
     rw [this]
     rfl
theorem Qv {l t q : List UInt8} (h : Ref.x9 l = some (t, q)) : t.length < 256 := (Ref.Zr h).2
theorem Rp {w : World} {b : Nat} {c : Ref.Ch} (h : w.heap[b]? = some (.cells #[jc c.key, jc c.value, .bool c.gone] 88 (0, 0))) : (loadVar 88 ⟨b, 0, none⟩).run Tryz.prog w = .ok (chV c) w := by
 have c0 := cell_of_heap (o := 0) h
 have c1 := cell_of_heap (o := 1) h
 have c2 := cell_of_heap (o := 2) h
 simp at c0 c1 c2
 go_simp
theorem o9 {fn : Func} {t u : Tmp} (h : fn.results = #[.cell t 88, .tmp u]) {tmps : Array Value} {w : World} {b : Nat} {c : Ref.Ch} (ht : tmps.getD t undef = .pointer (some ⟨b, 0, none⟩))
   (hb : w.heap[b]? = some (.cells #[jc c.key, jc c.value, .bool c.gone] 88 (0, 0))) :
   (results fn tmps).run Tryz.prog w = .ok (.tuple #[chV c, tmps.getD u undef]) w := by
 have hl := Rp hb
 have ht' : tmps[t]?.getD undef = .pointer (some ⟨b, 0, none⟩) := by simpa using ht
 simp [results, h, ht', asAddr, hl]
theorem Bytes.other {w w' : World} {v : Value} {l : List UInt8} {b : Nat} (h : Bytes w v l) (hk : ja w w' (fun i => i = b)) (hb : ∀ j x, w.cell? ⟨b, j, none⟩ ≠ some (qg x)) : Bytes w' v l := by
 obtain ⟨p, c, rfl, h1, h2, h3, h4⟩ := h
 refine ⟨p, c, rfl, h1, h2, h3, fun ad e => ⟨(h4 ad e).1, fun j x hx => ?_⟩⟩
 have hc := (h4 ad e).2 j x hx
 refine hk.cell hc (fun hbb => hb (ad.add j).off x ?_)
 have h5 : (ad.add j).spot = none := I8 ad j (h4 ad e).1
 have e2 : (⟨b, (ad.add j).off, none⟩ : Addr) = ad.add j := by rw [← hbb, ← h5]
 rw [e2]
 exact hc
theorem Ay {w : World} {b : Nat} {a v : List UInt8} {g : Bool} {t : TypeId} {fz : Nat × Nat} (h : w.heap[b]? = some (.cells #[jc a, jc v, .bool g] t fz)) : ∀ j x, w.cell? ⟨b, j, none⟩ ≠ some (qg x) := by
 intro j x
 rw [cell_of_heap h]
 match j with
 | 0 => simp
 | 1 => simp
 | 2 => simp
 | j + 3 => rw [Array.getElem?_eq_none (by simp)]; simp
theorem Rd.other {w w' : World} {r b : Nat} {l : List UInt8} (h : Rd w r l) (hk : ja w w' (fun i => i = b)) (hne : r ≠ b) (hb : ∀ j x, w.cell? ⟨b, j, none⟩ ≠ some (qg x)) : Rd w' r l := by
 obtain ⟨v, h1, h2, h3⟩ := h
 exact ⟨v, hk.same h1 hne, h2.other hk hb, h3⟩
theorem yc {w : World} {b : Nat} {a v : List UInt8} {g : Bool} (h : w.heap[b]? = some (.cells #[jc a, jc v, .bool g] 88 (0, 0))) :
   w.cell? ⟨b, 0, none⟩ = some (jc a) ∧ w.cell? ⟨b, 1, none⟩ = some (jc v) ∧ w.cell? ⟨b, 2, none⟩ = some (.bool g) ∧ w.frozen? ⟨b, 0, none⟩ = false ∧ w.frozen? ⟨b, 1, none⟩ = false ∧ w.frozen? ⟨b, 2, none⟩ = false := by
 have c0 := cell_of_heap (o := 0) h
 have c1 := cell_of_heap (o := 1) h
 have c2 := cell_of_heap (o := 2) h
 simp at c0 c1 c2
 exact ⟨c0, c1, c2, frozen_of_heap h, frozen_of_heap h, frozen_of_heap h⟩
theorem uf {w : World} {b : Nat} {a v k x : List UInt8} {g y : Bool} (h : w.heap[b]? = some (.cells #[jc a, jc v, .bool g] 88 (0, 0))) :
   (((w.setCell ⟨b, 0, none⟩ (jc k)).setCell ⟨b, 1, none⟩ (jc x)).setCell ⟨b, 2, none⟩ (.bool y)).heap[b]? = some (.cells #[jc k, jc x, .bool y] 88 (0, 0)) := by
 have h1 := jb (o := 0) h (jc k)
 have h2 := jb (o := 1) h1 (jc x)
 have h3 := jb (o := 2) h2 (.bool y)
 simpa using h3
theorem Yh (w : World) (b : Nat) (x y z : Value) : ja w (((w.setCell ⟨b, 0, none⟩ x).setCell ⟨b, 1, none⟩ y).setCell ⟨b, 2, none⟩ z) (fun i => i = b) :=
 (((ja.refl w (fun i => i = b)).set (p := ⟨b, 0, none⟩) rfl x).set (p := ⟨b, 1, none⟩) rfl y).set (p := ⟨b, 2, none⟩) rfl z
set_option maxHeartbeats 1000000 in
set_option maxRecDepth 100000 in
theorem Ha {w : World} {r : Nat} {m m1 q key val : List UInt8} (hr : Rd w r (1 :: m)) (h1 : Ref.x9 m = some (key, m1)) (h2 : Ref.x9 m1 = some (val, q)) (hal : Ref.allowed ⟨key, val, false⟩ = true) :
   Calls Tryz.prog 264 #[.pointer (some ⟨r, 0, none⟩)] w fun e w' => e = .returned (.tuple #[chV ⟨key, val, false⟩, .nilIface]) ∧ Rd w' r q ∧ ja w w' (fun i => i = r) := by
 have hrl : r < w.heap.size := by obtain ⟨v, h1, _⟩ := hr; exact lt_of_heap h1
 have kA := ja.alloc w (.cells #[jc [], jc [], .bool false] 88) (fun _ => False)
 have hRB := jd w (.cells #[jc [], jc [], .bool false] 88)
 have hkl := Qv h1
 have hvl := Qv h2
 go_enter Tryz.func264, Tryz.ntmps264
 go_wp2_with fail
 refine (y8 (n := 1) (hr.same kA) (by simp) (by omega)).mono ?_
 rintro e w1 ⟨rfl, hr1, k1⟩
 have e1 : Ref.number (((1 : UInt8) :: m).take 1) = 1 := by simp [Ref.number]
 rw [e1]
 rw [show ((1 : UInt8) :: m).drop 1 = m from rfl] at hr1
 have hs1 : w.heap.size < w1.heap.size := by have := k1.size; simp at this; omega
 have hRB1 := k1.same hRB (by omega)
 have KA1 : ja w w1 (fun i => i = r) := (Qb kA).trans k1 (fun _ _ h => h)
 clear hRB kA
 have hCB := jd w1 (.cells #[jc [], jc [], .bool false] 88)
 have kB := ja.alloc w1 (.cells #[jc [], jc [], .bool false] 88) (fun _ => False)
 have HCB := hide hCB
 have HRB1 := hide hRB1
 clear hCB hRB1
 go_wp2_with fail
 refine (dz (hr1.same kB) h1).mono ?_
 rintro e w2 ⟨rfl, hr2, k2⟩
 have hCB2 := k2.same HCB.out (show ¬ w1.heap.size = r by omega)
 have hRB2 := k2.same (kB.same HRB1.out id) (show ¬ w.heap.size = r by omega)
 have KA2 : ja w w2 (fun i => i = r) := (KA1.trans (Qb kB) (fun _ _ h => h)).trans k2 (fun _ _ h => h)
 obtain ⟨a0, a1, a2, f0, f1, f2⟩ := yc hCB2
 have no2 := Ay hCB2
 have k2c := ja.setCell w2 ⟨w1.heap.size, 0, none⟩ (jc key)
 have hr2' := hr2.other k2c (show r ≠ w1.heap.size by omega) no2
 have hCB2' := jb (o := 0) hCB2 (jc key)
 have hRB2' := k2c.same hRB2 (show ¬ w.heap.size = w1.heap.size by omega)
 have KA2' : ja w (w2.setCell ⟨w1.heap.size, 0, none⟩ (jc key)) (fun i => i = r) := KA2.trans k2c (fun i hi e => by have e' : i = w1.heap.size := e; omega)
 have HCB2 := hide hCB2'
 have HRB2 := hide hRB2'
 have HR2 := hide hr2'
 have HK2 := hide KA2'
 clear hCB2 hRB2 hCB2' hRB2' hr2' KA2' no2 k2c
 go_wp2_with fail
 refine (dz HR2.out h2).mono ?_
 rintro e w3 ⟨rfl, hr3, k3⟩
 have hCB3 := k3.same HCB2.out (show ¬ w1.heap.size = r by omega)
 have hRB3 := k3.same HRB2.out (show ¬ w.heap.size = r by omega)
 have KA3 : ja w w3 (fun i => i = r) := HK2.out.trans k3 (fun _ _ h => h)
 simp only [List.size_toArray, List.length_cons, List.length_nil, Array.setIfInBounds] at hCB3
 simp at hCB3
 obtain ⟨b0, b1, b2, g0, g1, g2⟩ := yc hCB3
 have no3 := Ay hCB3
 have k3c := ja.setCell w3 ⟨w1.heap.size, 1, none⟩ (jc val)
 have hr3' := hr3.other k3c (show r ≠ w1.heap.size by omega) no3
 have hCB3' := jb (o := 1) hCB3 (jc val)
 simp at hCB3'
 have hRB3' := k3c.same hRB3 (show ¬ w.heap.size = w1.heap.size by omega)
 have KA3' : ja w (w3.setCell ⟨w1.heap.size, 1, none⟩ (jc val)) (fun i => i = r) := KA3.trans k3c (fun i hi e => by have e' : i = w1.heap.size := e; omega)
 obtain ⟨d0, d1, d2, _⟩ := yc hCB3'
 have HCB3 := hide hCB3'
 have HRB3 := hide hRB3'
 have HR3 := hide hr3'
 have HK3 := hide KA3'
 clear hCB3 hRB3 hCB3' hRB3' hr3' KA3' no3 k3c
 go_wp2_with fail
 refine (Zf ⟨key, val, false⟩ (by simp only; omega) (by simp only; omega) _).mono ?_
 rintro e w4 ⟨rfl, k4⟩
 rw [hal]
 have hCB4 := k4.same HCB3.out id
 have hRB4 := k4.same HRB3.out id
 obtain ⟨i0, i1, i2, _⟩ := yc hCB4
 obtain ⟨q0, q1, q2, s0, s1, s2⟩ := yc hRB4
 have noR := Ay hRB4
 have HRB4 := hide hRB4
 clear hCB4 hRB4
 have hr4 := HR3.out.same k4
 have KA4 : ja w w4 (fun i => i = r) := HK3.out.trans k4 (fun _ _ h => h.elim)
 go_wp2
 refine bodyPost_ret (o9 rfl rfl (c := ⟨key, val, false⟩) (uf HRB4.out)) rfl ?_
 exact ⟨rfl, hr4.other (Yh _ _ _ _ _) (by omega) noR, KA4.trans (Yh _ _ _ _ _) (fun i hi e => by have e' : i = w.heap.size := e; omega)⟩
set_option maxHeartbeats 1000000 in
set_option maxRecDepth 100000 in
theorem Kq {w : World} {r : Nat} {m q key : List UInt8} (hr : Rd w r (2 :: m)) (h1 : Ref.x9 m = some (key, q)) (hal : Ref.allowed ⟨key, [], true⟩ = true) :
   Calls Tryz.prog 264 #[.pointer (some ⟨r, 0, none⟩)] w fun e w' => e = .returned (.tuple #[chV ⟨key, [], true⟩, .nilIface]) ∧ Rd w' r q ∧ ja w w' (fun i => i = r) := by
 have hrl : r < w.heap.size := by obtain ⟨v, h1, _⟩ := hr; exact lt_of_heap h1
 have kA := ja.alloc w (.cells #[jc [], jc [], .bool false] 88) (fun _ => False)
 have hRB := jd w (.cells #[jc [], jc [], .bool false] 88)
 have hkl := Qv h1
 go_enter Tryz.func264, Tryz.ntmps264
 go_wp2_with fail
 refine (y8 (n := 1) (hr.same kA) (by simp) (by omega)).mono ?_
 rintro e w1 ⟨rfl, hr1, k1⟩
 have e1 : Ref.number (((2 : UInt8) :: m).take 1) = 2 := by simp [Ref.number]
 rw [e1]
 rw [show ((2 : UInt8) :: m).drop 1 = m from rfl] at hr1
 have hs1 : w.heap.size < w1.heap.size := by have := k1.size; simp at this; omega
 have hRB1 := k1.same hRB (by omega)
 have KA1 : ja w w1 (fun i => i = r) := (Qb kA).trans k1 (fun _ _ h => h)
 clear hRB kA
 have hCB := jd w1 (.cells #[jc [], jc [], .bool true] 88)
 have kB := ja.alloc w1 (.cells #[jc [], jc [], .bool true] 88) (fun _ => False)
 have HCB := hide hCB
 have HRB1 := hide hRB1
 clear hCB hRB1
 go_wp2_with fail
 refine (dz (hr1.same kB) h1).mono ?_
 rintro e w2 ⟨rfl, hr2, k2⟩
 have hCB2 := k2.same HCB.out (show ¬ w1.heap.size = r by omega)
 have hRB2 := k2.same (kB.same HRB1.out id) (show ¬ w.heap.size = r by omega)
 have KA2 : ja w w2 (fun i => i = r) := (KA1.trans (Qb kB) (fun _ _ h => h)).trans k2 (fun _ _ h => h)
 obtain ⟨a0, a1, a2, f0, f1, f2⟩ := yc hCB2
 have no2 := Ay hCB2
 have k2c := ja.setCell w2 ⟨w1.heap.size, 0, none⟩ (jc key)
 have hr2' := hr2.other k2c (show r ≠ w1.heap.size by omega) no2
 have hCB2' := jb (o := 0) hCB2 (jc key)
 have hRB2' := k2c.same hRB2 (show ¬ w.heap.size = w1.heap.size by omega)
 have KA2' : ja w (w2.setCell ⟨w1.heap.size, 0, none⟩ (jc key)) (fun i => i = r) := KA2.trans k2c (fun i hi e => by have e' : i = w1.heap.size := e; omega)
 simp at hCB2'
 obtain ⟨d0, d1, d2, _⟩ := yc hCB2'
 have HCB3 := hide hCB2'
 have HRB3 := hide hRB2'
 have HR3 := hide hr2'
 have HK3 := hide KA2'
 clear hCB2 hRB2 hCB2' hRB2' hr2' KA2' no2 k2c
 go_wp2_with fail
 refine (Zf ⟨key, [], true⟩ (by simp only; omega) (by simp) _).mono ?_
 rintro e w4 ⟨rfl, k4⟩
 rw [hal]
 have hCB4 := k4.same HCB3.out id
 have hRB4 := k4.same HRB3.out id
 obtain ⟨i0, i1, i2, _⟩ := yc hCB4
 obtain ⟨q0, q1, q2, s0, s1, s2⟩ := yc hRB4
 have noR := Ay hRB4
 have HRB4 := hide hRB4
 clear hCB4 hRB4
 have hr4 := HR3.out.same k4
 have KA4 : ja w w4 (fun i => i = r) := HK3.out.trans k4 (fun _ _ h => h.elim)
 go_wp2
 refine bodyPost_ret (o9 rfl rfl (c := ⟨key, [], true⟩) (uf HRB4.out)) rfl ?_
 exact ⟨rfl, hr4.other (Yh _ _ _ _ _) (by omega) noR, KA4.trans (Yh _ _ _ _ _) (fun i hi e => by have e' : i = w.heap.size := e; omega)⟩
def Zz (E : Nat → Addr) (w : World) (r : Nat) (e : Ending) (w' : World) : Prop := ∃ v, e = .returned (.tuple #[chV ⟨[], [], false⟩, v]) ∧ dh E w' v ∧ ja w w' (fun i => i = r)
theorem fo {E : Nat → Addr} {w w4 : World} {r : Nat} {v : Value} {fn : Func} {t u : Tmp} (h : fn.results = #[.cell t 88, .tmp u]) {a : Act} (ht : a.tmps.getD t undef = .pointer (some ⟨w.heap.size, 0, none⟩)) (hu : a.tmps.getD u undef = v) (hd : a.defers = [])
   (hRB : w4.heap[w.heap.size]? = some (.cells #[jc [], jc [], .bool false] 88 (0, 0))) (hv : dh E w4 v) (hk : ja w w4 (fun i => i = r)) :
   bodyPost Tryz.prog fn (Zz E w r) Exit.ret a (((w4.setCell ⟨w.heap.size, 0, none⟩ (jc [])).setCell ⟨w.heap.size, 1, none⟩ (jc [])).setCell ⟨w.heap.size, 2, none⟩ (.bool false)) := by
 refine bodyPost_ret (o9 h ht (c := ⟨[], [], false⟩) (uf hRB)) hd ?_
 rw [hu]
 obtain ⟨k, h1, h2⟩ := hv
 refine ⟨v, rfl, ⟨k, h1, h2.keep (Yh _ _ _ _ _) (fun i c hi e => ?_)⟩, hk.trans (Yh _ _ _ _ _) (fun i hi e => by have e' : i = w.heap.size := e; omega)⟩
 have e' : i = w.heap.size := hi
 subst e'
 rw [hRB] at e
 cases e
set_option maxHeartbeats 1000000 in
set_option maxRecDepth 100000 in
theorem Kn {E : Nat → Addr} {B : Nat} {w : World} {r : Nat} (S : Q0 E B w) (hB : B ≤ r) (hr : Rd w r []) :
   Calls Tryz.prog 264 #[.pointer (some ⟨r, 0, none⟩)] w (Zz E w r) := by
 have hrl : r < w.heap.size := by obtain ⟨v, h1, _⟩ := hr; exact lt_of_heap h1
 have kA := ja.alloc w (.cells #[jc [], jc [], .bool false] 88) (fun _ => False)
 have hRB := jd w (.cells #[jc [], jc [], .bool false] 88)
 go_enter Tryz.func264, Tryz.ntmps264
 go_wp2_with fail
 refine (Qi (n := 1) (S.same kA) (hr.same kA) (by simp) (by omega)).mono ?_
 rintro e w1 ⟨v, rfl, he, hr1, k1⟩
 obtain ⟨t, a, rfl⟩ := he.shape
 go_wp2_with fail
 refine (Ja _ he).mono ?_
 rintro e w2 ⟨v2, rfl, he2, k2⟩
 have hRB2 := k2.same (k1.same hRB id) id
 have KA : ja w w2 (fun i => i = r) := Qb ((kA.trans k1 (fun _ _ h => h)).trans k2 (fun _ _ h => h))
 obtain ⟨q0, q1, q2, s0, s1, s2⟩ := yc hRB2
 have HRB := hide hRB2
 clear hRB2 hRB
 go_wp2
 exact fo (v := v2) rfl rfl rfl rfl HRB.out (dh.of he2 (by decide)) KA
set_option maxHeartbeats 1000000 in
set_option maxRecDepth 100000 in
theorem Ko {E : Nat → Addr} {B : Nat} {w : World} {r : Nat} {kd : UInt8} {m : List UInt8} (S : Q0 E B w) (hB : B ≤ r) (hr : Rd w r (kd :: m)) (h1 : kd ≠ 1) (h2 : kd ≠ 2) :
   Calls Tryz.prog 264 #[.pointer (some ⟨r, 0, none⟩)] w (Zz E w r) := by
 have hrl : r < w.heap.size := by obtain ⟨v, h1, _⟩ := hr; exact lt_of_heap h1
 have kA := ja.alloc w (.cells #[jc [], jc [], .bool false] 88) (fun _ => False)
 have hRB := jd w (.cells #[jc [], jc [], .bool false] 88)
 have n1 : kd.toNat ≠ 1 := fun e => h1 (UInt8.toNat_inj.1 e)
 have n2 : kd.toNat ≠ 2 := fun e => h2 (UInt8.toNat_inj.1 e)
 have n3 : ((kd.toNat : Int) != 1) = true := by simp; omega
 have n4 : ((kd.toNat : Int) != 2) = true := by simp; omega
 go_enter Tryz.func264, Tryz.ntmps264
 go_wp2_with fail
 refine (y8 (n := 1) (hr.same kA) (by simp) (by omega)).mono ?_
 rintro e w1 ⟨rfl, hr1, k1⟩
 have e1 : Ref.number ((kd :: m).take 1) = kd.toNat := by simp [Ref.number]
 rw [e1]
 have KA1 : ja w w1 (fun i => i = r) := (Qb kA).trans k1 (fun _ _ h => h)
 have S1 := S.keep KA1 (fun i e => by rw [e]; exact hB)
 have s4 := S1.cell 4 (by decide)
 go_wp2_with fail
 refine (Ja _ (.base (E := E) 4 (by decide))).mono ?_
 rintro e w2 ⟨v2, rfl, he2, k2⟩
 have hRB2 := k2.same (k1.same hRB (by omega)) id
 have KA : ja w w2 (fun i => i = r) := KA1.trans k2 (fun _ _ h => h.elim)
 obtain ⟨q0, q1, q2, s0, s1, s2⟩ := yc hRB2
 have HRB := hide hRB2
 clear hRB2 hRB
 go_wp2
 exact fo (v := v2) rfl rfl rfl rfl HRB.out (dh.of he2 (by decide)) KA
set_option maxHeartbeats 1000000 in
set_option maxRecDepth 100000 in
theorem Bw {E : Nat → Addr} {B : Nat} {w : World} {r : Nat} {kd : UInt8} {m : List UInt8} (S : Q0 E B w) (hB : B ≤ r) (hr : Rd w r (kd :: m)) (hkd : kd = 1 ∨ kd = 2) (h1 : Ref.x9 m = none) :
   Calls Tryz.prog 264 #[.pointer (some ⟨r, 0, none⟩)] w (Zz E w r) := by
 have hrl : r < w.heap.size := by obtain ⟨v, h1, _⟩ := hr; exact lt_of_heap h1
 have kA := ja.alloc w (.cells #[jc [], jc [], .bool false] 88) (fun _ => False)
 have hRB := jd w (.cells #[jc [], jc [], .bool false] 88)
 have hn : ∃ g : Bool, (kd.toNat = 1 ∧ g = false) ∨ (kd.toNat = 2 ∧ g = true) := by
   rcases hkd with rfl | rfl
   · exact ⟨false, .inl ⟨rfl, rfl⟩⟩
   · exact ⟨true, .inr ⟨rfl, rfl⟩⟩
 obtain ⟨g, hg⟩ := hn
 have e1 : Ref.number ((kd :: m).take 1) = kd.toNat := by simp [Ref.number]
 generalize kd.toNat = N at e1 hg
 rcases hg with ⟨rfl, rfl⟩ | ⟨rfl, rfl⟩
 all_goals
   go_enter Tryz.func264, Tryz.ntmps264
   go_wp2_with fail
   refine (y8 (n := 1) (hr.same kA) (by simp) (by omega)).mono ?_
   rintro e w1 ⟨rfl, hr1, k1⟩
   rw [e1]
   rw [show (kd :: m).drop 1 = m from rfl] at hr1
   have hs1 : w.heap.size < w1.heap.size := by have := k1.size; simp at this; omega
   have hRB1 := k1.same hRB (by omega)
   have KA1 : ja w w1 (fun i => i = r) := (Qb kA).trans k1 (fun _ _ h => h)
   have S1 := S.keep KA1 (fun i e => by rw [e]; exact hB)
   have HRB1 := hide hRB1
   clear hRB hRB1
   go_wp2_with fail
   refine (Io (S1.same (ja.alloc w1 _ _)) hB (hr1.same (ja.alloc w1 _ _)) h1).mono ?_
   rintro e w2 ⟨v, rfl, he, k2⟩
   obtain ⟨t, a, rfl⟩ := he.shape
   have hRB2 := k2.same ((ja.alloc w1 _ (fun _ => False)).same HRB1.out id) (show ¬ w.heap.size = r by omega)
   have hCB2 := k2.same (jd w1 _) (show ¬ w1.heap.size = r by omega)
   have KA2 : ja w w2 (fun i => i = r) := (KA1.more _).trans k2 (fun _ _ h => h)
   obtain ⟨a0, a1, a2, f0, f1, f2⟩ := yc hCB2
   have k2c := ja.setCell w2 ⟨w1.heap.size, 0, none⟩ (jc [])
   have hRB2' := k2c.same hRB2 (show ¬ w.heap.size = w1.heap.size by omega)
   have KA2' : ja w (w2.setCell ⟨w1.heap.size, 0, none⟩ (jc [])) (fun i => i = r) := KA2.trans k2c (fun i hi e => by have e' : i = w1.heap.size := e; omega)
   have he' := he.keep k2c (fun i c hi e => by have e' : i = w1.heap.size := hi; subst e'; rw [hCB2] at e; cases e)
   have HRB2 := hide hRB2'
   clear hCB2 hRB2 hRB2'
   go_wp2_with fail
   refine (Ja _ he').mono ?_
   rintro e w3 ⟨v3, rfl, he3, k3⟩
   have hRB3 := k3.same HRB2.out id
   have KA3 : ja w w3 (fun i => i = r) := KA2'.trans k3 (fun _ _ h => h.elim)
   obtain ⟨q0, q1, q2, s0, s1, s2⟩ := yc hRB3
   have HRB := hide hRB3
   clear hRB3
   go_wp2
   exact fo (v := v3) rfl rfl rfl rfl HRB.out (dh.of he3 (by decide)) KA3
set_option maxHeartbeats 1000000 in
set_option maxRecDepth 100000 in
theorem M4 {E : Nat → Addr} {B : Nat} {w : World} {r : Nat} {m m1 key : List UInt8} (S : Q0 E B w) (hB : B ≤ r) (hr : Rd w r (1 :: m)) (h1 : Ref.x9 m = some (key, m1)) (h2 : Ref.x9 m1 = none) :
   Calls Tryz.prog 264 #[.pointer (some ⟨r, 0, none⟩)] w (Zz E w r) := by
 have hrl : r < w.heap.size := by obtain ⟨v, h1, _⟩ := hr; exact lt_of_heap h1
 have kA := ja.alloc w (.cells #[jc [], jc [], .bool false] 88) (fun _ => False)
 have hRB := jd w (.cells #[jc [], jc [], .bool false] 88)
 have hkl := Qv h1
 go_enter Tryz.func264, Tryz.ntmps264
 go_wp2_with fail
 refine (y8 (n := 1) (hr.same kA) (by simp) (by omega)).mono ?_
 rintro e w1 ⟨rfl, hr1, k1⟩
 have e1 : Ref.number (((1 : UInt8) :: m).take 1) = 1 := by simp [Ref.number]
 rw [e1]
 rw [show ((1 : UInt8) :: m).drop 1 = m from rfl] at hr1
 have hs1 : w.heap.size < w1.heap.size := by have := k1.size; simp at this; omega
 have hRB1 := k1.same hRB (by omega)
 have KA1 : ja w w1 (fun i => i = r) := (Qb kA).trans k1 (fun _ _ h => h)
 have HRB1 := hide hRB1
 clear hRB hRB1
 go_wp2_with fail
 refine (dz (hr1.same (ja.alloc w1 _ _)) h1).mono ?_
 rintro e w2 ⟨rfl, hr2, k2⟩
 have hCB2 := k2.same (jd w1 _) (show ¬ w1.heap.size = r by omega)
 have hRB2 := k2.same ((ja.alloc w1 _ (fun _ => False)).same HRB1.out id) (show ¬ w.heap.size = r by omega)
 have KA2 : ja w w2 (fun i => i = r) := (KA1.more _).trans k2 (fun _ _ h => h)
 obtain ⟨a0, a1, a2, f0, f1, f2⟩ := yc hCB2
 have no2 := Ay hCB2
 have k2c := ja.setCell w2 ⟨w1.heap.size, 0, none⟩ (jc key)
 have hr2' := hr2.other k2c (show r ≠ w1.heap.size by omega) no2
 have hCB2' := jb (o := 0) hCB2 (jc key)
 simp at hCB2'
 have hRB2' := k2c.same hRB2 (show ¬ w.heap.size = w1.heap.size by omega)
 have KA2' : ja w (w2.setCell ⟨w1.heap.size, 0, none⟩ (jc key)) (fun i => i = r) := KA2.trans k2c (fun i hi e => by have e' : i = w1.heap.size := e; omega)
 have S2 := S.keep KA2' (fun i e => by rw [e]; exact hB)
 have HCB2 := hide hCB2'
 have HRB2 := hide hRB2'
 have HR2 := hide hr2'
 have HK2 := hide KA2'
 clear hCB2 hRB2 hCB2' hRB2' hr2' KA2' no2 k2c
 go_wp2_with fail
 refine (Io S2 hB HR2.out h2).mono ?_
 rintro e w3 ⟨v, rfl, he, k3⟩
 obtain ⟨t, a, rfl⟩ := he.shape
 have hCB3 := k3.same HCB2.out (show ¬ w1.heap.size = r by omega)
 have hRB3 := k3.same HRB2.out (show ¬ w.heap.size = r by omega)
 have KA3 : ja w w3 (fun i => i = r) := HK2.out.trans k3 (fun _ _ h => h)
 obtain ⟨b0, b1, b2, g0, g1, g2⟩ := yc hCB3
 have k3c := ja.setCell w3 ⟨w1.heap.size, 1, none⟩ (jc [])
 have hRB3' := k3c.same hRB3 (show ¬ w.heap.size = w1.heap.size by omega)
 have KA3' : ja w (w3.setCell ⟨w1.heap.size, 1, none⟩ (jc [])) (fun i => i = r) := KA3.trans k3c (fun i hi e => by have e' : i = w1.heap.size := e; omega)
 have he' := he.keep k3c (fun i c hi e => by have e' : i = w1.heap.size := hi; subst e'; rw [hCB3] at e; cases e)
 have HRB3 := hide hRB3'
 clear hCB3 hRB3 hRB3'
 go_wp2_with fail
 refine (Ja _ he').mono ?_
 rintro e w4 ⟨v3, rfl, he3, k4⟩
 have hRB4 := k4.same HRB3.out id
 have KA4 : ja w w4 (fun i => i = r) := KA3'.trans k4 (fun _ _ h => h.elim)
 obtain ⟨q0, q1, q2, s0, s1, s2⟩ := yc hRB4
 have HRB := hide hRB4
 clear hRB4
 go_wp2
 exact fo (v := v3) rfl rfl rfl rfl HRB.out (dh.of he3 (by decide)) KA4
theorem Eb {E : Nat → Addr} {w w4 : World} {r : Nat} {fn : Func} {t u : Tmp} (h : fn.results = #[.cell t 88, .tmp u]) {a : Act} (ht : a.tmps.getD t undef = .pointer (some ⟨w.heap.size, 0, none⟩)) (hu : a.tmps.getD u undef = .iface 371 (.pointer (some (E 4)))) (hd : a.defers = [])
   (hRB : w4.heap[w.heap.size]? = some (.cells #[jc [], jc [], .bool false] 88 (0, 0))) (hk : ja w w4 (fun i => i = r)) :
   bodyPost Tryz.prog fn (Zz E w r) Exit.ret a (((w4.setCell ⟨w.heap.size, 0, none⟩ (jc [])).setCell ⟨w.heap.size, 1, none⟩ (jc [])).setCell ⟨w.heap.size, 2, none⟩ (.bool false)).drew := by
 refine bodyPost_ret (o9 h ht (c := ⟨[], [], false⟩) (uf hRB)) hd ?_
 rw [hu]
 exact ⟨_, rfl, ⟨_, by decide, .base _ (by decide)⟩, (hk.trans (Yh _ _ _ _ _) (fun i hi e => by have e' : i = w.heap.size := e; omega)).draw⟩
set_option maxHeartbeats 2000000 in
set_option maxRecDepth 100000 in
theorem Km {E : Nat → Addr} {B : Nat} {w : World} {r : Nat} {m m1 q key val : List UInt8} (S : Q0 E B w) (hB : B ≤ r) (hr : Rd w r (1 :: m)) (h1 : Ref.x9 m = some (key, m1)) (h2 : Ref.x9 m1 = some (val, q)) (hal : Ref.allowed ⟨key, val, false⟩ = false) :
   Calls Tryz.prog 264 #[.pointer (some ⟨r, 0, none⟩)] w (Zz E w r) := by
 have hrl : r < w.heap.size := by obtain ⟨v, h1, _⟩ := hr; exact lt_of_heap h1
 have kA := ja.alloc w (.cells #[jc [], jc [], .bool false] 88) (fun _ => False)
 have hRB := jd w (.cells #[jc [], jc [], .bool false] 88)
 have hkl := Qv h1
 have hvl := Qv h2
 go_enter Tryz.func264, Tryz.ntmps264
 go_wp2_with fail
 refine (y8 (n := 1) (hr.same kA) (by simp) (by omega)).mono ?_
 rintro e w1 ⟨rfl, hr1, k1⟩
 have e1 : Ref.number (((1 : UInt8) :: m).take 1) = 1 := by simp [Ref.number]
 rw [e1]
 rw [show ((1 : UInt8) :: m).drop 1 = m from rfl] at hr1
 have hs1 : w.heap.size < w1.heap.size := by have := k1.size; simp at this; omega
 have hRB1 := k1.same hRB (by omega)
 have KA1 : ja w w1 (fun i => i = r) := (Qb kA).trans k1 (fun _ _ h => h)
 have HRB1 := hide hRB1
 clear hRB hRB1
 go_wp2_with fail
 refine (dz (hr1.same (ja.alloc w1 _ _)) h1).mono ?_
 rintro e w2 ⟨rfl, hr2, k2⟩
 have hCB2 := k2.same (jd w1 _) (show ¬ w1.heap.size = r by omega)
 have hRB2 := k2.same ((ja.alloc w1 _ (fun _ => False)).same HRB1.out id) (show ¬ w.heap.size = r by omega)
 have KA2 : ja w w2 (fun i => i = r) := (KA1.more _).trans k2 (fun _ _ h => h)
 obtain ⟨a0, a1, a2, f0, f1, f2⟩ := yc hCB2
 have no2 := Ay hCB2
 have k2c := ja.setCell w2 ⟨w1.heap.size, 0, none⟩ (jc key)
 have hr2' := hr2.other k2c (show r ≠ w1.heap.size by omega) no2
 have hCB2' := jb (o := 0) hCB2 (jc key)
 simp at hCB2'
 have hRB2' := k2c.same hRB2 (show ¬ w.heap.size = w1.heap.size by omega)
 have KA2' : ja w (w2.setCell ⟨w1.heap.size, 0, none⟩ (jc key)) (fun i => i = r) := KA2.trans k2c (fun i hi e => by have e' : i = w1.heap.size := e; omega)
 have HCB2 := hide hCB2'
 have HRB2 := hide hRB2'
 have HR2 := hide hr2'
 have HK2 := hide KA2'
 clear hCB2 hRB2 hCB2' hRB2' hr2' KA2' no2 k2c
 go_wp2_with fail
 refine (dz HR2.out h2).mono ?_
 rintro e w3 ⟨rfl, hr3, k3⟩
 have hCB3 := k3.same HCB2.out (show ¬ w1.heap.size = r by omega)
 have hRB3 := k3.same HRB2.out (show ¬ w.heap.size = r by omega)
 have KA3 : ja w w3 (fun i => i = r) := HK2.out.trans k3 (fun _ _ h => h)
 obtain ⟨b0, b1, b2, g0, g1, g2⟩ := yc hCB3
 have k3c := ja.setCell w3 ⟨w1.heap.size, 1, none⟩ (jc val)
 have hCB3' := jb (o := 1) hCB3 (jc val)
 simp at hCB3'
 have hRB3' := k3c.same hRB3 (show ¬ w.heap.size = w1.heap.size by omega)
 have KA3' : ja w (w3.setCell ⟨w1.heap.size, 1, none⟩ (jc val)) (fun i => i = r) := KA3.trans k3c (fun i hi e => by have e' : i = w1.heap.size := e; omega)
 obtain ⟨d0, d1, d2, _⟩ := yc hCB3'
 have HRB3 := hide hRB3'
 have HK3 := hide KA3'
 clear hCB3 hRB3 hCB3' hRB3' KA3' k3c
 go_wp2_with fail
 refine (Zf ⟨key, val, false⟩ (by simp only; omega) (by simp only; omega) _).mono ?_
 rintro e w4 ⟨rfl, k4⟩
 rw [hal]
 have hRB4 := k4.same HRB3.out id
 obtain ⟨q0, q1, q2, s0, s1, s2⟩ := yc hRB4
 have HRB4 := hide hRB4
 clear hRB4
 have KA4 : ja w w4 (fun i => i = r) := HK3.out.trans k4 (fun _ _ h => h.elim)
 have S4 := S.keep KA4 (fun i e => by rw [e]; exact hB)
 have v4 := S4.cell 4 (by decide)
 have hlt4 := S4.lt 4 (by decide)
 have v4' : ∀ x y z, (((w4.setCell ⟨w.heap.size, 0, none⟩ x).setCell ⟨w.heap.size, 1, none⟩ y).setCell ⟨w.heap.size, 2, none⟩ z).cell? ⟨4, 0, none⟩ = some (.iface 371 (.pointer (some (E 4)))) :=
   fun x y z => (Yh w4 w.heap.size x y z).cell v4 (by simp only; omega)
 go_wp2_with fail
 go_region
 all_goals
   go_wp2
   exact Eb rfl rfl rfl rfl HRB4.out KA4
set_option maxHeartbeats 2000000 in
set_option maxRecDepth 100000 in
theorem Kl {E : Nat → Addr} {B : Nat} {w : World} {r : Nat} {m q key : List UInt8} (S : Q0 E B w) (hB : B ≤ r) (hr : Rd w r (2 :: m)) (h1 : Ref.x9 m = some (key, q)) (hal : Ref.allowed ⟨key, [], true⟩ = false) :
   Calls Tryz.prog 264 #[.pointer (some ⟨r, 0, none⟩)] w (Zz E w r) := by
 have hrl : r < w.heap.size := by obtain ⟨v, h1, _⟩ := hr; exact lt_of_heap h1
 have kA := ja.alloc w (.cells #[jc [], jc [], .bool false] 88) (fun _ => False)
 have hRB := jd w (.cells #[jc [], jc [], .bool false] 88)
 have hkl := Qv h1
 go_enter Tryz.func264, Tryz.ntmps264
 go_wp2_with fail
 refine (y8 (n := 1) (hr.same kA) (by simp) (by omega)).mono ?_
 rintro e w1 ⟨rfl, hr1, k1⟩
 have e1 : Ref.number (((2 : UInt8) :: m).take 1) = 2 := by simp [Ref.number]
 rw [e1]
 rw [show ((2 : UInt8) :: m).drop 1 = m from rfl] at hr1
 have hs1 : w.heap.size < w1.heap.size := by have := k1.size; simp at this; omega
 have hRB1 := k1.same hRB (by omega)
 have KA1 : ja w w1 (fun i => i = r) := (Qb kA).trans k1 (fun _ _ h => h)
 have HRB1 := hide hRB1
 clear hRB hRB1
 go_wp2_with fail
 refine (dz (hr1.same (ja.alloc w1 _ _)) h1).mono ?_
 rintro e w2 ⟨rfl, hr2, k2⟩
 have hCB2 := k2.same (jd w1 _) (show ¬ w1.heap.size = r by omega)
 have hRB2 := k2.same ((ja.alloc w1 _ (fun _ => False)).same HRB1.out id) (show ¬ w.heap.size = r by omega)
 have KA2 : ja w w2 (fun i => i = r) := (KA1.more _).trans k2 (fun _ _ h => h)
 obtain ⟨a0, a1, a2, f0, f1, f2⟩ := yc hCB2
 have no2 := Ay hCB2
 have k2c := ja.setCell w2 ⟨w1.heap.size, 0, none⟩ (jc key)
 have hr2' := hr2.other k2c (show r ≠ w1.heap.size by omega) no2
 have hCB2' := jb (o := 0) hCB2 (jc key)
 simp at hCB2'
 have hRB2' := k2c.same hRB2 (show ¬ w.heap.size = w1.heap.size by omega)
 have KA2' : ja w (w2.setCell ⟨w1.heap.size, 0, none⟩ (jc key)) (fun i => i = r) := KA2.trans k2c (fun i hi e => by have e' : i = w1.heap.size := e; omega)
 obtain ⟨d0, d1, d2, _⟩ := yc hCB2'
 have HRB3 := hide hRB2'
 have HK3 := hide KA2'
 clear hCB2 hRB2 hCB2' hRB2' hr2' KA2' no2 k2c
 go_wp2_with fail
 refine (Zf ⟨key, [], true⟩ (by simp only; omega) (by simp) _).mono ?_
 rintro e w4 ⟨rfl, k4⟩
 rw [hal]
 have hRB4 := k4.same HRB3.out id
 obtain ⟨q0, q1, q2, s0, s1, s2⟩ := yc hRB4
 have HRB4 := hide hRB4
 clear hRB4
 have KA4 : ja w w4 (fun i => i = r) := HK3.out.trans k4 (fun _ _ h => h.elim)
 have S4 := S.keep KA4 (fun i e => by rw [e]; exact hB)
 have v4 := S4.cell 4 (by decide)
 have hlt4 := S4.lt 4 (by decide)
 have v4' : ∀ x y z, (((w4.setCell ⟨w.heap.size, 0, none⟩ x).setCell ⟨w.heap.size, 1, none⟩ y).setCell ⟨w.heap.size, 2, none⟩ z).cell? ⟨4, 0, none⟩ = some (.iface 371 (.pointer (some (E 4)))) :=
   fun x y z => (Yh w4 w.heap.size x y z).cell v4 (by simp only; omega)
 go_wp2_with fail
 go_region
 all_goals
   go_wp2
   exact Eb rfl rfl rfl rfl HRB4.out KA4
theorem Pw {w : World} {r : Nat} {l q : List UInt8} {c : Ref.Ch} (hr : Rd w r l) (ht : Ref.Jm l = some (c, q)) :
   Calls Tryz.prog 264 #[.pointer (some ⟨r, 0, none⟩)] w fun e w' => e = .returned (.tuple #[chV c, .nilIface]) ∧ Rd w' r q ∧ ja w w' (fun i => i = r) := by
 cases l with
 | nil => simp [Ref.Jm] at ht
 | cons kd m =>
   simp only [Ref.Jm] at ht
   split at ht
   · rename_i hk1
     subst hk1
     cases h1 : Ref.x9 m with
     | none => rw [h1] at ht; cases ht
     | some x =>
       obtain ⟨key, m1⟩ := x
       rw [h1] at ht
       simp only at ht
       cases h2 : Ref.x9 m1 with
       | none => rw [h2] at ht; cases ht
       | some x =>
         obtain ⟨val, m2⟩ := x
         rw [h2] at ht
         simp only at ht
         split at ht
         · rename_i hal
           cases ht
           exact Ha hr h1 h2 hal
         · cases ht
   · split at ht
     · rename_i _ hk2
       subst hk2
       cases h1 : Ref.x9 m with
       | none => rw [h1] at ht; cases ht
       | some x =>
         obtain ⟨key, m1⟩ := x
         rw [h1] at ht
         simp only at ht
         split at ht
         · rename_i hal
           cases ht
           exact Kq hr h1 hal
         · cases ht
     · cases ht
theorem M5 {E : Nat → Addr} {B : Nat} {w : World} {r : Nat} {l : List UInt8} (S : Q0 E B w) (hB : B ≤ r) (hr : Rd w r l) (ht : Ref.Jm l = none) :
   Calls Tryz.prog 264 #[.pointer (some ⟨r, 0, none⟩)] w (Zz E w r) := by
 cases l with
 | nil => exact Kn S hB hr
 | cons kd m =>
   simp only [Ref.Jm] at ht
   split at ht
   · rename_i hk1
     subst hk1
     cases h1 : Ref.x9 m with
     | none => exact Bw S hB hr (.inl rfl) h1
     | some x =>
       obtain ⟨key, m1⟩ := x
       rw [h1] at ht
       simp only at ht
       cases h2 : Ref.x9 m1 with
       | none => exact M4 S hB hr h1 h2
       | some x =>
         obtain ⟨val, m2⟩ := x
         rw [h2] at ht
         simp only at ht
         split at ht
         · cases ht
         · rename_i hal
           exact Km S hB hr h1 h2 (by simpa using hal)
   · rename_i hk1
     split at ht
     · rename_i hk2
       subst hk2
       cases h1 : Ref.x9 m with
       | none => exact Bw S hB hr (.inr rfl) h1
       | some x =>
         obtain ⟨key, m1⟩ := x
         rw [h1] at ht
         simp only at ht
         split at ht
         · cases ht
         · rename_i hal
           exact Kl S hB hr h1 (by simpa using hal)
     · rename_i hk2
       exact Ko S hB hr hk1 hk2
def A8 : Value := .agg #[.string ⟨#[]⟩, .string ⟨#[]⟩, .bool false]
theorem Tryz.Z8 : (Tryz.prog.info? 88).map (fun i => (i.zero, i.size, i.bytes)) = some (some A8, 3, 40) := by kernel_rfl
def Zh (E : Nat → Addr) (w : World) (r : Nat) (res : Option (List Ref.Ch)) (e : Ending) (w' : World) : Prop :=
 ja w w' (fun i => i = r) ∧ ((∃ cs v, res = some cs ∧ e = .returned (.tuple #[v, .nilIface]) ∧ w'.ownsRow w.heap.size 88 3 v cs.length (jg cs)) ∨ (∃ v, res = none ∧ e = .returned (.tuple #[.slice none 0 0, v]) ∧ dh E w' v))
def Ae (cs : List Ref.Ch) : Option (List Ref.Ch × List UInt8) → Option (List Ref.Ch × List UInt8)
 | none => none
 | some (ds, q) => some (cs ++ ds, q)
theorem Ub {cs : List Ref.Ch} {n : Nat} {q q' : List UInt8} {c : Ref.Ch} (h : Ref.Jm q = some (c, q')) : Ae cs (Ref.qo (n + 1) q) = Ae (cs ++ [c]) (Ref.qo n q') := by
 rw [Ref.qo, h]
 simp only
 cases Ref.qo n q' with
 | none => rfl
 | some x => simp [Ae]
theorem Uc {cs : List Ref.Ch} {n : Nat} {q : List UInt8} (h : Ref.Jm q = none) : Ae cs (Ref.qo (n + 1) q) = none := by
 rw [Ref.qo, h]
 rfl
theorem Vu (w : World) (c : Ref.Ch) (t : TypeId) : ∀ j u, (jg [c])[j]? = some u → (w.alloc (.cells #[jc c.key, jc c.value, .bool c.gone] t)).cell? ((⟨w.heap.size, 0, none⟩ : Addr).add j) = some u := by
 intro j u hj
 exact Qc (jd w (.cells #[jc c.key, jc c.value, .bool c.gone] t)) rfl j u (by simpa [jg] using hj)
theorem Rd.row {w w' : World} {r base n : Nat} {q : List UInt8} {v : Value} {cs : List Ref.Ch} (h : Rd w r q) (hk : ja w w' (fun i => some i = v.ownBlock)) (ho : w.ownsRow base 88 3 v n (jg cs)) (hr : r < base) : Rd w' r q := by
 obtain ⟨u, h1, h2, h3⟩ := h
 have hne : ∀ i, i ≤ r → ¬ some i = v.ownBlock := fun i hi e => by have := (ho.lt i e.symm).1; omega
 refine ⟨u, hk.same h1 (hne r (Nat.le_refl _)), ?_, h3⟩
 rcases Classical.em (q = []) with rfl | hq
 · obtain ⟨p, c, rfl, a1, a2, a3, a4⟩ := h2
   exact ⟨p, c, rfl, a1, a2, a3, fun ad e => ⟨(a4 ad e).1, fun j u hu => by cases hu⟩⟩
 · exact h2.keep hk (fun p n c e => hne _ (Nat.le_of_lt (h3 hq p n c e).1))
set_option maxHeartbeats 1000000 in
set_option maxRecDepth 100000 in
theorem uw {E : Nat → Addr} {B : Nat} {w : World} {r : Nat} {l : List UInt8} (most : Nat) (hmost : most ≤ 255) (S : Q0 E B w) (hB : B ≤ r) (hr : Rd w r l) :
   Calls Tryz.prog 257 #[.pointer (some ⟨r, 0, none⟩), .int .u64 most] w (Zh E w r (Ref.Ju most l)) := by
 have hrl : r < w.heap.size := by obtain ⟨v, h1, _⟩ := hr; exact lt_of_heap h1
 cases l with
 | nil =>
   go_enter Tryz.func257, Tryz.ntmps257
   go_wp2_with fail
   refine (Qi (n := 1) S hr (by simp) (by omega)).mono ?_
   rintro e w1 ⟨v, rfl, he, hr1, k1⟩
   obtain ⟨t, a, rfl⟩ := he.shape
   go_wp2_with fail
   refine (Ja _ he).mono ?_
   rintro e w2 ⟨v2, rfl, he2, k2⟩
   go_wp2
   go_ret2
   exact ⟨Xb (Qb k1) (Qb k2), .inr ⟨_, rfl, rfl, .of he2 (by decide)⟩⟩
 | cons n m =>
   have e1 : Ref.number ((n :: m).take 1) = n.toNat := by simp [Ref.number]
   have hR : Ref.Ju most (n :: m) = if 1 ≤ n.toNat ∧ n.toNat ≤ most then (match Ref.qo n.toNat m with | some (cs, []) => some cs | _ => none) else none := rfl
   have hn8 := n.toNat_lt
   have HR := hide hR
   clear hR
   generalize Ref.Ju most (n :: m) = RES at HR ⊢
   generalize hN : n.toNat = N at e1 HR hn8
   rcases Classical.em (1 ≤ N ∧ N ≤ most) with hc | hc
   · have HR2 : Hid (RES = (match Ref.qo N m with | some (cs, []) => some cs | _ => none)) := by
       unfold Hid
       rw [HR.out, if_pos hc]
     obtain ⟨hc1, hc2⟩ := hc
     clear HR
     have hd1 : decide ((N : Int) < 1) = false := by simp; omega
     have hd2 : decide (most < N) = false := by simp; omega
     obtain ⟨j0, hj, hy0, hy1, hy2⟩ := info_parts Tryz.Z8
     go_enter Tryz.func257, Tryz.ntmps257
     go_wp2_with fail
     refine (y8 (n := 1) hr (by simp) (by omega)).mono ?_
     rintro e w1 ⟨rfl, hr1, k1⟩
     rw [e1]
     rw [show (n :: m).drop 1 = m from rfl] at hr1
     go_wp2_with fail
     go_loopw [8, 31] (fun v i wr => ∃ (k : Nat) (cs : List Ref.Ch) (q : List UInt8) (p : Option Addr) (c : Nat), k ≤ N ∧ cs.length = k ∧ i = .int .u64 k ∧ v = .slice p k c ∧
         wr.ownsRow w.heap.size 88 3 (.slice p k c) k (jg cs) ∧ Rd wr r q ∧ ja w wr (fun i => i = r) ∧ Ref.qo N m = Ae cs (Ref.qo (N - k) q))
       (fun _ i _ => N - (intOf i).toNat)
     case atStart => exact ⟨0, [], m, none, 0, Nat.zero_le _, rfl, rfl, rfl, World.ownsRow_nil _ _ _ _, hr1, k1, by cases Ref.qo N m <;> simp [Ae]⟩
     case round =>
       obtain ⟨k, cs, q, p, c, hk, hlen, rfl, rfl, hown, hrq, hkw, hrest⟩ := hrel
       have HREST := hide hrest
       clear hrest
       have Sr := S.keep hkw (fun i e => by rw [e]; exact hB)
       rcases Nat.lt_or_ge k N with hlt | hge
       · cases hE : Ref.Jm q with
         | none =>
           have hnone : Ref.qo N m = none := by
             rw [HREST.out, show N - k = (N - k - 1) + 1 by omega]
             exact Uc hE
           have HN : Hid (RES = none) := by unfold Hid; rw [HR2.out, hnone]
           clear HR2 HREST hnone
           go_wp2_with fail
           refine (M5 Sr hB hrq hE).mono ?_
           rintro e w2 ⟨v, rfl, he, k2⟩
           obtain ⟨t, a, rfl⟩ := he.shape
           go_wp2_with fail
           refine (ug _ (he.same (ja.alloc w2 _ _))).mono ?_
           rintro e w3 ⟨v3, rfl, he3, k3⟩
           go_wp2
           go_ret2
           exact ⟨((Xb hkw k2).more _).trans k3 (fun _ _ h => h.elim), .inr ⟨_, HN.out, rfl, he3⟩⟩
         | some x =>
           obtain ⟨ch, q'⟩ := x
           have hstep : Ref.qo N m = Ae (cs ++ [ch]) (Ref.qo (N - (k + 1)) q') := by
             rw [HREST.out, show N - k = (N - (k + 1)) + 1 by omega]
             exact Ub hE
           have HS := hide hstep
           clear hstep HREST
           go_wp2_with fail
           refine (Pw hrq hE).mono ?_
           rintro e w2 ⟨rfl, hr2, k2⟩
           have hown2 := k2.row hown (fun g hg e => by have := (hown.lt g hg).1; omega)
           have KW := Xb hkw k2
           clear hown hrq Sr
           obtain ⟨ck, cv, cg⟩ := ch
           have hownA := (hown2.alloc (.cells #[jc ck, jc cv, .bool cg] 88)).alloc (.cells #[jc ck, jc cv, .bool cg] 88)
           have hsz1 : (w2.alloc (.cells #[jc ck, jc cv, .bool cg] 88)).heap.size = w2.heap.size + 1 := by simp
           have hnew := Vu (w2.alloc (.cells #[jc ck, jc cv, .bool cg] 88)) ⟨ck, cv, cg⟩ 88
           rw [hsz1] at hnew
           have h1 := tu [⟨ck, cv, cg⟩]
           have h63 : Hid (k + 1 ≤ maxLen) := by unfold Hid maxLen; omega
           have hbs : Hid ((k + 1) * 40 ≤ 140737488355328) := by unfold Hid; omega
           have hb : w.heap.size ≤ ((w2.alloc (.cells #[jc ck, jc cv, .bool cg] 88)).alloc (.cells #[jc ck, jc cv, .bool cg] 88)).heap.size := by have := KW.size; simp; omega
           have hlt2 := hown2.lt
           go_wp2_with (first | (at_builtin; go_must (refine jm _ rfl (.tmp 42) (.tmp 44) 38 rfl w.heap.size 88 j0 A8 3 40 Tryz.underlying38 hj hy0 hy1 hy2 rfl (Nat.zero_lt_succ 2) _ _ _ rfl hownA ⟨w2.heap.size + 1, 0, none⟩ 1 1 (jg [⟨ck, cv, cg⟩]) rfl rfl hnew h1 h63.out hbs.out hb ?_); intro p3 cp3 w3 hown3 hg3 hloc3) | go_in)
           rw [← Zy] at hown3
           have k3 : ja w2 w3 (fun i => some i = (Value.slice p k c).ownBlock) := (((ja.refl w2 _).more _).more _).grow hg3 (fun j e _ => e.symm)
           have KW3 : ja w w3 (fun i => i = r) := KW.trans k3 (fun i hi e => by have := (hlt2 i e.symm).1; omega)
           have hr3 : Rd w3 r q' := hr2.row k3 hown2 hrl
           first
             | exact ⟨⟨k + 1, cs ++ [⟨ck, cv, cg⟩], q', p3, cp3, by omega, by simp [hlen], by simp, rfl, hown3, hr3, KW3, HS.out⟩, by simp [intOf]; omega⟩
             | (refine ⟨?_, by simp [intOf]; omega⟩
                (repeat apply Exists.intro)
                refine ⟨?_, rfl⟩
                exact ⟨k + 1, cs ++ [⟨ck, cv, cg⟩], q', p3, cp3, by omega, by simp [hlen], by simp, rfl, hown3, hr3, KW3, HS.out⟩)
       · have ek : k = N := by omega
         subst ek
         have hz : Ref.qo k m = some (cs, q) := by
           rw [HREST.out, Nat.sub_self, Ref.qo]
           simp [Ae]
         cases q with
         | nil =>
           have HN : Hid (RES = some cs) := by unfold Hid; rw [HR2.out, hz]
           clear HR2 HREST hz
           go_wp2_with fail
           refine (jao hrq).mono ?_
           rintro e w' ⟨rfl, rfl⟩
           go_wp2
           go_ret2
           exact ⟨hkw, .inl ⟨cs, _, HN.out, rfl, by rw [hlen]; exact hown⟩⟩
         | cons x q =>
           have HN : Hid (RES = none) := by unfold Hid; rw [HR2.out, hz]
           clear HR2 HREST hz
           go_wp2_with fail
           refine (Vn Sr hrq (by simp)).mono ?_
           rintro e w' ⟨v, rfl, he, rfl⟩
           obtain ⟨t, a, rfl⟩ := he.shape
           go_wp2_with fail
           refine (Ja _ he).mono ?_
           rintro e w2 ⟨v2, rfl, he2, k2⟩
           go_wp2
           go_ret2
           exact ⟨hkw.trans k2 (fun _ _ h => h.elim), .inr ⟨_, HN.out, rfl, .of he2 (by decide)⟩⟩
   · have HN : Hid (RES = none) := by
       unfold Hid
       rw [HR.out, if_neg hc]
     clear HR
     go_enter Tryz.func257, Tryz.ntmps257
     go_wp2_with fail
     refine (y8 (n := 1) hr (by simp) (by omega)).mono ?_
     rintro e w1 ⟨rfl, hr1, k1⟩
     rw [e1]
     have S1 := S.keep k1 (fun i e => by rw [e]; exact hB)
     have s4 := S1.cell 4 (by decide)
     rcases Nat.lt_or_ge N 1 with hN1 | hN1
     · go_wp2_with fail
       refine (Ja _ (.base (E := E) 4 (by decide))).mono ?_
       rintro e w2 ⟨v2, rfl, he2, k2⟩
       go_wp2
       go_ret2
       exact ⟨Xb k1 (Qb k2), .inr ⟨_, HN.out, rfl, .of he2 (by decide)⟩⟩
     · have hN2 : most < N := by omega
       go_wp2_with fail
       refine (Ja _ (.base (E := E) 4 (by decide))).mono ?_
       rintro e w2 ⟨v2, rfl, he2, k2⟩
       go_wp2
       go_ret2
       exact ⟨Xb k1 (Qb k2), .inr ⟨_, HN.out, rfl, .of he2 (by decide)⟩⟩
theorem Zh.keep {E : Nat → Addr} {w w1 w' : World} {r : Nat} {res : Option (List Ref.Ch)} {e : Ending} (h : Zh E w1 r res e w') (hk : ja w w1 (fun i => i = r)) : Zh E w r res e w' := by
 obtain ⟨h1, h2⟩ := h
 refine ⟨Xb hk h1, ?_⟩
 rcases h2 with ⟨cs, v, a, b, c⟩ | h2
 · exact .inl ⟨cs, v, a, b, xx c hk.size⟩
 · exact .inr h2
set_option maxHeartbeats 1000000 in
set_option maxRecDepth 100000 in
theorem M6 {E : Nat → Addr} {B : Nat} {w : World} {r : Nat} {l : List UInt8} (num : Nat) (hnum : num < 9223372036854775808) (S : Q0 E B w) (hB : B ≤ r) (hr : Rd w r l) :
   Calls Tryz.prog 246 #[.pointer (some ⟨r, 0, none⟩), .int .i64 num] w (Zh E w r (Ref.Yp num l)) := by
 have hcv : (num : Int) % 18446744073709551616 = (num : Int) := by omega
 have hR : Ref.Yp num l = if 8 ≤ l.length ∧ Ref.number (l.take 8) = num then Ref.Ju 8 (l.drop 8) else none := rfl
 rcases Nat.lt_or_ge l.length 8 with h8 | h8
 · rw [if_neg (by omega)] at hR
   rw [hR]
   clear hR
   go_enter Tryz.func246, Tryz.ntmps246
   go_wp2_with fail
   refine (Qi (n := 8) S hr (by omega) (by omega)).mono ?_
   rintro e w1 ⟨v, rfl, he, hr1, k1⟩
   obtain ⟨t, a, rfl⟩ := he.shape
   go_wp2
   go_ret2
   exact ⟨Qb k1, .inr ⟨_, rfl, rfl, .of he (by decide)⟩⟩
 · have hlt := Ref.Yq (l.take 8)
   rw [show (l.take 8).length = 8 by simp; omega] at hlt
   rcases Classical.em (Ref.number (l.take 8) = num) with hn | hn
   · rw [if_pos ⟨h8, hn⟩] at hR
     rw [hR]
     clear hR
     go_enter Tryz.func246, Tryz.ntmps246
     go_wp2_with fail
     refine (y8 (n := 8) hr h8 (by omega)).mono ?_
     rintro e w1 ⟨rfl, hr1, k1⟩
     rw [hn]
     have S1 := S.keep k1 (fun i e => by rw [e]; exact hB)
     go_wp2_with fail
     refine (uw 8 (by omega) S1 hB hr1).mono ?_
     intro e w2 hp
     have hq := hp.keep k1
     obtain ⟨_, ⟨cs, v, _, rfl, _⟩ | ⟨v, _, rfl, _⟩⟩ := hp
     all_goals
       go_wp2
       go_ret2
       exact hq
   · rw [if_neg (by omega)] at hR
     rw [hR]
     clear hR
     go_enter Tryz.func246, Tryz.ntmps246
     go_wp2_with fail
     refine (y8 (n := 8) hr h8 (by omega)).mono ?_
     rintro e w1 ⟨rfl, hr1, k1⟩
     generalize Ref.number (l.take 8) = N at hn hlt ⊢
     have hne : ((N : Int) == (num : Int)) = false := by simp; omega
     have hne2 : ((N : Int) != (num : Int)) = true := by simp; omega
     have S1 := S.keep k1 (fun i e => by rw [e]; exact hB)
     have s4 := S1.cell 4 (by decide)
     go_wp2_with fail
     refine (Ja _ (.base (E := E) 4 (by decide))).mono ?_
     rintro e w2 ⟨v2, rfl, he2, k2⟩
     go_wp2
     go_ret2
     exact ⟨Xb k1 (Qb k2), .inr ⟨_, rfl, rfl, .of he2 (by decide)⟩⟩
def jfb (E : Nat → Addr) (G : Nat → Prop) (w : World) (res : Option (List Ref.Ch × List UInt8)) (e : Ending) (w' : World) : Prop :=
 ja w w' (fun _ => False) ∧ ((∃ b q v1 v2, res = some (b, q) ∧ e = .returned (.tuple #[v1, v2, .nilIface]) ∧ Bytes w' v2 q ∧ (q ≠ [] → ∀ p n c, v2 = .slice (some p) n c → G p.block) ∧ w'.ownsRow w.heap.size 88 3 v1 b.length (jg b)) ∨
   (∃ v, res = none ∧ e = .returned (.tuple #[.slice none 0 0, .slice none 0 0, v]) ∧ dh E w' v))
set_option maxHeartbeats 1000000 in
set_option maxRecDepth 100000 in
theorem Mq {E : Nat → Addr} {G : Nat → Prop} {B : Nat} {w : World} {v : Value} {l : List UInt8} (num : Nat) (hnum : num < 9223372036854775808) (S : Q0 E B w) (hB : B ≤ w.heap.size) (hv : Bytes w v l) (hG : l ≠ [] → ∀ p n c, v = .slice (some p) n c → G p.block) (hl : l.length < 1099511627776) :
   Calls Tryz.prog 219 #[v, .int .i64 num] w (jfb E G w (Ref.Jn num l)) := by
 have hR : Ref.Jn num l = match Ref.xh l with | none => none | some (h, r) => (match Ref.Yp num h with | none => none | some b => some (b, r)) := rfl
 cases hf : Ref.xh l with
 | none =>
   rw [hf] at hR
   simp only at hR
   rw [hR]
   clear hR
   go_enter Tryz.func219, Tryz.ntmps219
   go_wp2_with fail
   refine (Bq S hB hv hf hl).mono ?_
   rintro e w1 ⟨v1, rfl, he, k1⟩
   obtain ⟨t, a, rfl⟩ := he.shape
   go_wp2_with fail
   refine (ug _ he).mono ?_
   rintro e w2 ⟨v2, rfl, he2, k2⟩
   go_wp2
   go_ret3
   exact ⟨k1.trans k2 (fun _ _ h => h), .inr ⟨_, rfl, rfl, he2⟩⟩
 | some x =>
   obtain ⟨h, q⟩ := x
   rw [hf] at hR
   simp only at hR
   have HR := hide hR
   clear hR
   generalize Ref.Jn num l = RES at HR ⊢
   go_enter Tryz.func219, Tryz.ntmps219
   go_wp2_with fail
   refine (Dn hv hG hf hl).mono ?_
   rintro e w1 ⟨v1, hb1, ⟨v2, hb2, hg2, rfl⟩, k1⟩
   have HG2 := hide hg2
   clear hg2
   go_wp2_with fail
   refine (Qz v1 h w1 hb1).mono ?_
   rintro e w2 ⟨r, rfl, hrs, hr2, k2⟩
   have S2 := S.same (k1.trans k2 (fun _ _ h => h))
   have hBr : B ≤ r := by have := k1.size; omega
   go_wp2_with fail
   refine (M6 num hnum S2 hBr hr2).mono ?_
   rintro e w3 ⟨k3, ⟨b, v3, hres, rfl, hown⟩ | ⟨v3, hres, rfl, he⟩⟩
   · have HN : Hid (RES = some (b, q)) := by unfold Hid; rw [HR.out, hres]
     clear HR
     have kk : ja w w3 (fun _ => False) := k1.trans (Yg k2 hrs k3) (fun _ _ h => h)
     have hq3 : Bytes w3 v2 q := (hr2.bytes (hb2.same k2) k3)
     have hbase := xx hown (Nat.le_trans k1.size k2.size)
     go_wp2
     go_ret3
     exact ⟨kk, .inl ⟨b, q, _, _, HN.out, rfl, hq3, HG2.out, hbase⟩⟩
   · have HN : Hid (RES = none) := by unfold Hid; rw [HR.out, hres]
     clear HR
     have kk : ja w w3 (fun _ => False) := k1.trans (Yg k2 hrs k3) (fun _ _ h => h)
     obtain ⟨t, a, rfl⟩ := he.shape
     go_wp2_with fail
     refine (ug _ he).mono ?_
     rintro e w4 ⟨v4, rfl, he4, k4⟩
     go_wp2
     go_ret3
     exact ⟨kk.trans k4 (fun _ _ h => h), .inr ⟨_, HN.out, rfl, he4⟩⟩
end Go.Proofs.YtnipbplghijdmaaGreatDoor
