/-
  La: Entry.
-/
import Derived.WalkSpells
import Derived.WalkLawsBesides
import Derived.Test.YtnipbplghijdmaaGreatDoorLa12
namespace Go.Proofs.YtnipbplghijdmaaGreatDoor
open Go.RowKit Go.Maps Go.WideShapes
set_option linter.unusedVariables false
abbrev chV (c : Ref.Ch) : Value := .agg #[jc c.key, jc c.value, .bool c.gone]
def jg (l : List Ref.Ch) : List Value := l.flatMap fun c => [jc c.key, jc c.value, .bool c.gone]
theorem Zy (l : List Ref.Ch) (c : Ref.Ch) : jg (l ++ [c]) = jg l ++ jg [c] := by simp [jg]
theorem za (l : List Ref.Ch) : (jg l).length = l.length * 3 := by
 induction l with
 | nil => rfl
 | cons c r ih => simp only [jg, List.flatMap_cons, List.length_append, List.length_cons, List.length_nil] at ih ⊢; omega
theorem tu (l : List Ref.Ch) : ∀ u ∈ jg l, u.oneCell' = true := by
 intro u hu
 simp only [jg, List.mem_flatMap] at hu
 obtain ⟨c, _, hu⟩ := hu
 simp at hu
 rcases hu with rfl | rfl | rfl <;> rfl
theorem Md {l : List Ref.Ch} {k : Nat} (h : k < l.length) : (jg l)[k * 3]? = some (jc l[k].key) ∧ (jg l)[k * 3 + 1]? = some (jc l[k].value) ∧ (jg l)[k * 3 + 2]? = some (.bool l[k].gone) := by
 induction l generalizing k with
 | nil => simp at h
 | cons c r ih =>
   cases k with
   | zero => simp [jg]
   | succ k =>
     have := ih (k := k) (by simpa using h)
     have e : jg (c :: r) = [jc c.key, jc c.value, .bool c.gone] ++ jg r := by simp [jg]
     rw [e]
     simp only [show (k + 1) * 3 = 3 + k * 3 by omega, List.getElem_cons_succ]
     refine ⟨?_, ?_, ?_⟩
     · rw [List.getElem?_append_right (by simp)]; simpa using this.1
     · rw [List.getElem?_append_right (by simp; omega)]; simp only [List.length_cons, List.length_nil, show 3 + k * 3 + 1 - (0 + 1 + 1 + 1) = k * 3 + 1 by omega]; exact this.2.1
     · rw [List.getElem?_append_right (by simp; omega)]; simp only [List.length_cons, List.length_nil, show 3 + k * 3 + 2 - (0 + 1 + 1 + 1) = k * 3 + 2 by omega]; exact this.2.2
def Chs (w : World) (v : Value) (l : List Ref.Ch) : Prop :=
 ∃ p c, v = .slice p l.length c ∧ l.length ≤ c ∧ c ≤ maxLen ∧ (p = none → c = 0) ∧ ∀ ad, p = some ad → ad.spot = none ∧ ∀ j u, (jg l)[j]? = some u → w.cell? (ad.add j) = some u
theorem Chs.keep {w w' : World} {v : Value} {l : List Ref.Ch} {T : Nat → Prop} (h : Chs w v l) (hk : ja w w' T) (hT : l ≠ [] → ∀ p n c, v = .slice (some p) n c → ¬ T p.block) : Chs w' v l := by
 obtain ⟨p, c, rfl, h1, h2, h3, h4⟩ := h
 exact ⟨p, c, rfl, h1, h2, h3, fun ad e => ⟨(h4 ad e).1, fun j u hu => hk.cell ((h4 ad e).2 j u hu) (by rw [add_block]; exact hT (fun e => by rw [e] at hu; simp [jg] at hu) ad _ _ (by rw [e]))⟩⟩
theorem Chs.same {w w' : World} {v : Value} {l : List Ref.Ch} (h : Chs w v l) (hk : ja w w' (fun _ => False)) : Chs w' v l := h.keep hk (fun _ _ _ _ _ h => h)
theorem Chs.lt {w : World} {p : Addr} {n c : Nat} {l : List Ref.Ch} (h : Chs w (.slice (some p) n c) l) (hl : l ≠ []) : p.block < w.heap.size := by
 obtain ⟨p', c', e, h1, h2, h3, h4⟩ := h
 cases e
 cases l with
 | nil => exact absurd rfl hl
 | cons x r =>
   have := World.block_lt_of_cell? w _ ((h4 p rfl).2 0 (jc x.key) (by simp [jg]))
   rwa [add_block] at this
theorem Chs.nil (w : World) : Chs w (.slice none 0 0) [] := ⟨none, 0, rfl, Nat.le_refl _, Nat.zero_le _, fun _ => rfl, fun _ h => by cases h⟩
theorem Jk {w : World} {base : Nat} {v : Value} {l : List Ref.Ch} (h : w.ownsRow base 88 3 v l.length (jg l)) : Chs w v l := by
 rcases h.2 with ⟨e, h0⟩ | ⟨g, cap, cur, e, _, hgg, h1, h2, _⟩
 · have : l = [] := List.eq_nil_of_length_eq_zero h0
   subst this
   rw [e]
   exact Chs.nil w
 · refine ⟨some ⟨g, 0, none⟩, cap, e, h1, h2, (fun h => by cases h), fun ad had => ?_⟩
   cases had
   exact ⟨rfl, fun j u hu => h.cells (by rw [e]; rfl) j _ hu⟩
set_option maxRecDepth 100000 in
theorem oq {w : World} {v : Value} {l h : List UInt8} (hv : Bytes w v l) (ht : Ref.xh l = some (h, [])) (hl : l.length < 1099511627776) :
   Calls Tryz.prog 215 #[v] w fun e w' => ∃ v1, e = .returned (.tuple #[v1, .nilIface]) ∧ Bytes w' v1 h ∧ ja w w' (fun _ => False) := by
 go_enter Tryz.func215, Tryz.ntmps215
 go_wp2_with fail
 refine (Dm hv ht hl).mono ?_
 rintro e w1 ⟨v1, hb1, ⟨v2, hb2, rfl⟩, k1⟩
 obtain ⟨p, c, rfl, _⟩ := hb2
 go_wp2
 go_ret2
 exact ⟨_, rfl, hb1, k1⟩
set_option maxRecDepth 100000 in
theorem Mm {E : Nat → Addr} {B : Nat} {w : World} {v : Value} {l : List UInt8} (S : Q0 E B w) (hB : B ≤ w.heap.size) (hv : Bytes w v l) (ht : ∀ h, Ref.xh l ≠ some (h, [])) (hl : l.length < 1099511627776) :
   Calls Tryz.prog 215 #[v] w fun e w' => ∃ v1, e = .returned (.tuple #[.slice none 0 0, v1]) ∧ dh E w' v1 ∧ ja w w' (fun _ => False) := by
 cases hf : Ref.xh l with
 | none =>
   go_enter Tryz.func215, Tryz.ntmps215
   go_wp2_with fail
   refine (Bq S hB hv hf hl).mono ?_
   rintro e w1 ⟨v1, rfl, he, k1⟩
   obtain ⟨t, a, rfl⟩ := he.shape
   go_wp2
   go_ret2
   exact ⟨_, rfl, he, k1⟩
 | some x =>
   obtain ⟨h, q⟩ := x
   have hq : 0 < q.length := by
     cases q with
     | nil => exact absurd hf (ht h)
     | cons _ _ => simp
   go_enter Tryz.func215, Tryz.ntmps215
   go_wp2_with fail
   refine (Dm hv hf hl).mono ?_
   rintro e w1 ⟨v1, hb1, ⟨v2, hb2, rfl⟩, k1⟩
   obtain ⟨p, c, rfl, _⟩ := hb2
   have s3 := (S.same k1).cell 3 (by decide)
   go_wp2_with fail
   refine (Ja _ (.base (E := E) 3 (by decide))).mono ?_
   rintro e w4 ⟨v3, rfl, he3, k4⟩
   go_wp2
   go_ret2
   exact ⟨_, rfl, ⟨_, by decide, he3⟩, k1.trans k4 (fun _ _ h => h)⟩
set_option maxHeartbeats 1000000 in
set_option maxRecDepth 100000 in
theorem Zf (c : Ref.Ch) (hk : c.key.length < 1099511627776) (hv : c.value.length < 1099511627776) (w : World) :
   Calls Tryz.prog 101 #[chV c] w fun e w' => e = .returned (.bool (Ref.allowed c)) ∧ ja w w' (fun _ => False) := by
 obtain ⟨k, v, g⟩ := c
 simp only at hk hv
 have hE : v.isEmpty = true ∨ v.isEmpty = false := by cases v.isEmpty <;> simp
 have fin : ∀ (b : Bool), (b = Ref.allowed ⟨k, v, g⟩) → (Ending.returned (.bool b) = .returned (.bool (Ref.allowed ⟨k, v, g⟩))) := fun b e => by rw [e]
 have FIN := hide fin
 clear fin
 have hA : Hid (Ref.allowed ⟨k, v, g⟩ = (decide (1 ≤ k.length) && decide (k.length ≤ 16) && decide (v.length ≤ 40) && !(g && decide (v ≠ [])))) := rfl
 generalize hQ : Ref.allowed ⟨k, v, g⟩ = Q at FIN hA ⊢
 clear hQ
 rcases hE with hE | hE <;> cases g
 all_goals
   have hv0 : v = [] ↔ v.isEmpty = true := by simp
   have HV := hide hv0
   clear hv0
   go_enter Tryz.func101, Tryz.ntmps101
   go_wp2
 all_goals
   go_ret
   refine ⟨FIN.out _ ?_, ja.alloc w _ _⟩
   have h0 := HV.out
   rw [hA.out]
   simp at *
   try simp [*]
   try omega
   try (have hz : v.length = 0 := by rw [hE]; rfl
        omega)
theorem jgu (w : World) (t : List UInt8) : Src Tryz.prog 1 9 (jc t) t.length (t.map qg) w := by
 have h := Src.ofString (P := Tryz.prog) w Tryz.underlying9 ⟨t.toArray⟩
 have e1 : (⟨t.toArray⟩ : ByteArray).size = t.length := by simp [ByteArray.size]
 have e2 : byteCells ⟨t.toArray⟩ = t.map qg := by simp [byteCells]
 rw [e1, e2] at h
 exact h
set_option maxHeartbeats 1000000 in
set_option maxRecDepth 100000 in
theorem Ym (v : Value) (m : Nat) (xs t : List UInt8) (base : Nat) (w : World) (hm : xs.length = m) (hl : m < 1099511627776) (ht : t.length < 1099511627776) (hbase : base ≤ w.heap.size)
   (hrow : w.ownsRow base 5 1 v m (xs.map qg)) :
   Calls Tryz.prog 163 #[v, jc t] w fun e w' => ∃ p c, e = .returned (.slice p (m + 1 + t.length) c) ∧
     w'.ownsRow base 5 1 (.slice p (m + 1 + t.length) c) (m + 1 + t.length) ((xs ++ Ref.text t).map qg) ∧ Grown w v w' (.slice p (m + 1 + t.length) c) := by
 obtain ⟨p0, c0, rfl⟩ := jh hrow
 obtain ⟨j0, hj, hy0, hy1, hy2⟩ := info_parts Tryz.Ap
 have hby : ((t.length : Int) % 256) = ((UInt8.ofNat (t.length % 256)).toNat : Int) := by
   have h2 : (UInt8.ofNat (t.length % 256)).toNat = t.length % 256 := by simp [UInt8.toNat_ofNat']
   rw [h2]
   omega
 have HB := hide hby
 clear hby
 have hown' := hrow.alloc (.cells #[.int .u8 ((t.length : Int) % 256)] 5)
 have h1 : ∀ u ∈ [Value.int .u8 ((t.length : Int) % 256)], u.oneCell' = true := by intro u hu; simp at hu; subst hu; rfl
 have h63 : Hid (m + 1 ≤ maxLen) := by unfold Hid maxLen; omega
 have hbs : Hid ((m + 1) * 1 ≤ 140737488355328) := by unfold Hid; omega
 have h63' : Hid (m + 1 + t.length ≤ maxLen) := by unfold Hid maxLen; omega
 have hbs' : Hid ((m + 1 + t.length) * 1 ≤ 140737488355328) := by unfold Hid; omega
 have hb : base ≤ (w.alloc (.cells #[.int .u8 ((t.length : Int) % 256)] 5)).heap.size := by simp; omega
 have hsz : (⟨t.toArray⟩ : ByteArray).size = t.length := by simp [ByteArray.size]
 go_enter Tryz.func163, Tryz.ntmps163
 go_wp2_with (first
   | (at_builtin; refine jm _ rfl (.tmp 5) (.tmp 9) 84 rfl base 5 j0 (.int .u8 0) 1 1 Tryz.underlying84 hj hy0 hy1 hy2 rfl (by decide) _ _ _ rfl hown' ⟨w.heap.size, 0, none⟩ 1 1 [.int .u8 ((t.length : Int) % 256)] rfl rfl (cell_one_new _ _ _) h1 h63.out hbs.out hb ?_; intro p3 cp3 w3 hown3 hg3 hloc3)
   | (at_builtin; refine Q4 _ rfl (.tmp 10) (.tmp 11) 84 9 rfl base 5 j0 (.int .u8 0) 1 1 Tryz.underlying84 hj hy0 hy1 hy2 rfl (by decide) _ _ _ rfl hown3 _ t.length _ rfl (jgu _ t) h63'.out hbs'.out ?_ ?_; exact Nat.le_trans hb hg3.size; intro p4 cp4 w4 hown4 hg4 hloc4)
   | go_in)
 go_ret
 refine ⟨p4, cp4, rfl, ?_, (Grown.of (ja.alloc w _ _) _).trans ((Grown.grown hg3 hloc3).trans (Grown.grown hg4 hloc4))⟩
 rw [HB.out] at hown4
 have e : (xs ++ Ref.text t).map qg = (xs.map qg ++ [.int .u8 ((UInt8.ofNat (t.length % 256)).toNat : Int)]) ++ t.map qg := by simp [Ref.text, Ref.Bj]
 rw [e]
 exact hown4
theorem own_ne {v v2 : Value} {b s : Nat} (h : v2.ownBlock = v.ownBlock ∨ v2.ownBlock = some s) (hne : ¬ some b = v.ownBlock) (hs : b < s) : ¬ some b = v2.ownBlock := by
 rcases h with e | e
 · rw [e]; exact hne
 · rw [e]; intro e2; have := Option.some.inj e2; omega
theorem Xi (ys : Array Value) (w : World) : (callFunc 163 ys).run Tryz.prog w = .ok (.enter 163 ys) w := by kernel_rfl
theorem Grown.boxed {w2 w3 : World} {v2 v3 : Value} {b : Nat} {o : Obj} (hg : Grown w2 v2 w3 v3) (h : w2.heap[b]? = some o) (hne : ¬ some b = v2.ownBlock) : w3.heap[b]? = some o := hg.keeps.same h hne
set_option maxHeartbeats 600000 in
set_option maxRecDepth 100000 in
theorem Hz (v : Value) (m : Nat) (xs : List UInt8) (c : Ref.Ch) (base : Nat) (w : World) (hm : xs.length = m) (hl : m < 549755813888) (hk : c.key.length < 1048576) (hv : c.value.length < 1048576) (hbase : base ≤ w.heap.size)
   (hrow : w.ownsRow base 5 1 v m (xs.map qg)) :
   Calls Tryz.prog 151 #[v, chV c] w fun e w' => ∃ p cp, e = .returned (.slice p (m + (Ref.entry c).length) cp) ∧
     w'.ownsRow base 5 1 (.slice p (m + (Ref.entry c).length) cp) (m + (Ref.entry c).length) ((xs ++ Ref.entry c).map qg) ∧ Grown w v w' (.slice p (m + (Ref.entry c).length) cp) := by
 obtain ⟨p0, c0, rfl⟩ := jh hrow
 obtain ⟨j0, hj, hy0, hy1, hy2⟩ := info_parts Tryz.Ap
 obtain ⟨k, x, g⟩ := c
 simp only at hk hv
 have hrow1 := hrow.alloc (.cells #[jc k, jc x, .bool g] 88)
 have hlt := hrow.lt
 have hne : ¬ some w.heap.size = (Value.slice p0 m c0).ownBlock := fun e => by have := (hlt _ e.symm).2; omega
 have hsz1 : (w.alloc (.cells #[jc k, jc x, .bool g] 88)).heap.size = w.heap.size + 1 := by simp
 have hone : ∀ y : Int, ∀ j u, [Value.int .u8 y][j]? = some u → ((w.alloc (.cells #[jc k, jc x, .bool g] 88)).alloc (.cells #[.int .u8 y] 5)).cell? ((⟨w.heap.size + 1, 0, none⟩ : Addr).add j) = some u := by
   intro y
   have := cell_one_new (w.alloc (.cells #[jc k, jc x, .bool g] 88)) (.int .u8 y) 5
   rw [hsz1] at this
   exact this
 have h1 : ∀ y : Int, ∀ u ∈ [Value.int .u8 y], u.oneCell' = true := by intro y u hu; simp at hu; subst hu; rfl
 have h63 : Hid (m + 1 ≤ maxLen) := by unfold Hid maxLen; omega
 have hbs : Hid ((m + 1) * 1 ≤ 140737488355328) := by unfold Hid; omega
 have hbb : ∀ o, Hid (base ≤ ((w.alloc (.cells #[jc k, jc x, .bool g] 88)).alloc o).heap.size) := by intro o; unfold Hid; simp; omega
 have kk : ∀ o, ja w ((w.alloc (.cells #[jc k, jc x, .bool g] 88)).alloc o) (fun _ => False) := fun o => ((ja.refl w _).more _).more _
 have hcell : ∀ o, ((w.alloc (.cells #[jc k, jc x, .bool g] 88)).alloc o).heap[w.heap.size]? = some (.cells #[jc k, jc x, .bool g] 88 (0, 0)) := fun o => (Below.heap_alloc _ o _ (by simp)).trans (jd w _)
 have hss : Hid (∀ o, w.heap.size < ((w.alloc (.cells #[jc k, jc x, .bool g] 88)).alloc o).heap.size) := by intro o; simp; omega
 have LL : Hid (∀ y : UInt8, (xs ++ [y]).length = m + 1) := by intro y; simp; omega
 have L3 : Hid ((xs ++ [1] ++ Ref.text k).length = m + 1 + 1 + k.length) := by unfold Hid; simp [Ref.text, Ref.jk]; omega
 have hm1 : m + 1 < 1099511627776 := by omega
 have hm3 : m + 1 + 1 + k.length < 1099511627776 := by omega
 have hk1 : k.length < 1099511627776 := by omega
 have hx1 : x.length < 1099511627776 := by omega
 have HC := hide hcell
 have HK := hide kk
 clear hcell kk
 cases g with
 | true =>
   go_enter Tryz.func151, Tryz.ntmps151
   go_wp2_with fail
   go_region_law (first
     | (refine zn rfl (.tmp 7) (.tmp 8) 84 rfl base 5 j0 (.int .u8 0) 1 1 Tryz.underlying84 hj hy0 hy1 hy2 rfl Nat.zero_lt_one _ m _ rfl (hrow1.alloc _) ⟨w.heap.size + 1, 0, none⟩ 1 1 [.int .u8 2] rfl rfl (hone 2) (h1 2) h63.out hbs.out (hbb _).out ?_
        intro p2 cp2 w2 hown2 hg2 hloc2
        have hh := (ja.grown hg2).same (HC.out _) hne
        have e0 := cell_of_heap (o := 0) hh
        simp at e0
        clear hh
        have hb2 : base ≤ w2.heap.size := Nat.le_trans (hbb _).out hg2.size
        have gr2 : Grown w (.slice p0 m c0) w2 (.slice p2 (m + 1) cp2) := Grown.trans (Grown.of (HK.out _).draw _) (Grown.grown hg2 hloc2)
        have hx2 : ((xs ++ [2]).map qg) = xs.map qg ++ [.int .u8 2] := by simp
        rw [← hx2] at hown2
        clear hx2)
     | (refine jo rfl 163 [.tmp 9, .tmp 11] _ rfl Xi _ rfl (Ym (.slice p2 (m + 1) cp2) (m + 1) (xs ++ [2]) k base w2 (LL.out 2) hm1 hk1 hb2 hown2) ?_
        rintro e w3 ⟨p3, c3, rfl, hown3, hgr3⟩
        refine ⟨_, rfl, ?_⟩))
   all_goals
     go_wp2
     go_ret
     have ee : xs ++ [2] ++ Ref.text k = xs ++ Ref.entry ⟨k, x, true⟩ := by simp [Ref.entry]
     have el : m + 1 + 1 + k.length = m + (Ref.entry ⟨k, x, true⟩).length := by simp [Ref.entry, Ref.text, Ref.jk]; omega
     rw [ee, el] at hown3
     rw [el] at hgr3
     rw [el]
     exact ⟨p3, c3, rfl, hown3, gr2.trans hgr3⟩
 | false =>
   go_enter Tryz.func151, Tryz.ntmps151
   go_wp2_with fail
   go_region_law (first
     | (refine zn rfl (.tmp 13) (.tmp 14) 84 rfl base 5 j0 (.int .u8 0) 1 1 Tryz.underlying84 hj hy0 hy1 hy2 rfl Nat.zero_lt_one _ m _ rfl (hrow1.alloc _) ⟨w.heap.size + 1, 0, none⟩ 1 1 [.int .u8 1] rfl rfl (hone 1) (h1 1) h63.out hbs.out (hbb _).out ?_
        intro p2 cp2 w2 hown2 hg2 hloc2
        have hh := (ja.grown hg2).same (HC.out _) hne
        have e0 := cell_of_heap (o := 0) hh
        have e1 := cell_of_heap (o := 1) hh
        simp at e0 e1
        have HH := hide hh
        clear hh
        have hb2 : base ≤ w2.heap.size := Nat.le_trans (hbb _).out hg2.size
        have gr2 : Grown w (.slice p0 m c0) w2 (.slice p2 (m + 1) cp2) := Grown.trans (Grown.of (HK.out _).draw _) (Grown.grown hg2 hloc2)
        have hx2 : ((xs ++ [1]).map qg) = xs.map qg ++ [.int .u8 1] := by simp
        rw [← hx2] at hown2
        clear hx2)
     | (refine jo rfl 163 [.tmp 15, .tmp 17] _ rfl Xi _ rfl (Ym (.slice p2 (m + 1) cp2) (m + 1) (xs ++ [1]) k base w2 (LL.out 1) hm1 hk1 hb2 hown2) ?_
        rintro e w3 ⟨p3, c3, rfl, hown3, hgr3⟩
        have hb3 : base ≤ w3.heap.size := Nat.le_trans hb2 hgr3.keeps.size
        have gr3 := gr2.trans hgr3
        have hne2 := own_ne hloc2 hne (hss.out _)
        have hh3 := hgr3.boxed HH.out hne2
        have e0 := cell_of_heap (o := 0) hh3
        have e1 := cell_of_heap (o := 1) hh3
        simp at e0 e1
        clear hh3
        refine ⟨_, rfl, ?_⟩)
     | (refine jo rfl 163 [.tmp 18, .tmp 20] _ rfl Xi _ rfl (Ym (.slice p3 (m + 1 + 1 + k.length) c3) (m + 1 + 1 + k.length) (xs ++ [1] ++ Ref.text k) x base w3 L3.out hm3 hx1 hb3 hown3) ?_
        rintro e w4 ⟨p4, c4, rfl, hown4, hgr4⟩
        refine ⟨_, rfl, ?_⟩))
   all_goals
     go_wp2
     go_ret
     have ee : xs ++ [1] ++ Ref.text k ++ Ref.text x = xs ++ Ref.entry ⟨k, x, false⟩ := by simp [Ref.entry]
     have el : m + 1 + 1 + k.length + 1 + x.length = m + (Ref.entry ⟨k, x, false⟩).length := by simp [Ref.entry, Ref.text, Ref.jk]; omega
     rw [ee, el] at hown4
     rw [el] at hgr4
     rw [el]
     exact ⟨p4, c4, rfl, hown4, gr3.trans hgr4⟩
end Go.Proofs.YtnipbplghijdmaaGreatDoor
