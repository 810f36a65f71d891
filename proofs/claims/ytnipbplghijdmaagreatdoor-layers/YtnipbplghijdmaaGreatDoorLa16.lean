/-
  La: Names Names2 ManFrame ManRead2 ManRead3.
-/
import Derived.Lib.LaidTab
import Derived.Test.YtnipbplghijdmaaGreatDoorLa08
import Derived.Test.YtnipbplghijdmaaGreatDoorLa14
import Derived.Test.YtnipbplghijdmaaGreatDoorLa02
namespace Go.Proofs.YtnipbplghijdmaaGreatDoor
open Go.RowKit Go.Maps Go.WideShapes
set_option linter.unusedVariables false
structure Env (E : Nat → Addr) (B : Nat) (w : World) : Prop where
 sent : Q0 E B w
 tab : ∃ t fz, w.heap[5]? = some (.cells (Lib.pow10Tab.map fun z => Value.int .u64 z).toArray t fz)
 jgl : 5 < B
theorem Env.keep {E : Nat → Addr} {B : Nat} {w w' : World} {T : Nat → Prop} (h : Env E B w) (hk : ja w w' T) (hT : ∀ i, T i → B ≤ i) : Env E B w' := by
 refine ⟨h.sent.keep hk hT, ?_, h.jgl⟩
 obtain ⟨t, fz, ht⟩ := h.tab
 exact ⟨t, fz, hk.same ht (fun hh => by have h1 := hT _ hh; have h2 := h.jgl; omega)⟩
theorem Env.same {E : Nat → Addr} {B : Nat} {w w' : World} (h : Env E B w) (hk : ja w w' (fun _ => False)) : Env E B w' := h.keep hk (fun _ h => h.elim)
theorem Env.jhg {E : Nat → Addr} {B : Nat} {w : World} (h : Env E B w) : Lib.TabIs Tryz.prog w "internal/strconv.uint64pow10" .u64 Lib.pow10Tab := by
 obtain ⟨t, fz, ht⟩ := h.tab
 have hg : Tryz.prog.globalNamed "internal/strconv.uint64pow10" = some 5 := by kernel_rfl
 unfold Lib.TabIs World.var?
 rw [hg]
 simp [ht]
theorem ja.grew (w : World) (k : Nat) (os : Array Obj) (T : Nat → Prop) : ja w (Sort.grow (w.drewN k) os) T :=
 ⟨rfl, rfl, rfl, by simp [Sort.grow, World.drewN], fun i hi _ => by simp only [Sort.grow, World.drewN]; rw [Array.getElem?_append_left hi]⟩
theorem Ref.jaq (n : Nat) : Ref.decimal n = Lib.decDigits n := by
 induction n using Nat.strongRecOn with
 | ind n ih =>
   rw [Ref.decimal, Lib.decDigits]
   split
   · rfl
   · rw [ih _ (by omega)]
theorem U5 {E : Nat → Addr} {B : Nat} {w : World} (n : Nat) (hn : n ≤ 9223372036854775807) (H : Env E B w) :
   Calls Tryz.prog 104 #[.int .i64 n] w fun e w' => e = .returned (jc (Ref.decimal n)) ∧ ja w w' (fun _ => False) := by
 refine (Tryz.strconv_Itoa (n : Int) (by omega) (by omega) w H.jhg).mono ?_
 rintro e w' ⟨rfl, k, os, rfl⟩
 exact ⟨by rw [Lib.itoa_nonneg, Ref.jaq], ja.grew w k os _⟩
theorem Vp : ∀ (k n : Nat), n < 10 ^ (k + 1) → (Ref.decimal n).length ≤ k + 1 := by
 intro k
 induction k with
 | zero => intro n h; rw [Ref.decimal, dif_pos (by omega)]; simp
 | succ k ih =>
   intro n h
   rw [Ref.decimal]
   split
   · simp
   · have := ih (n / 10) (by rw [Nat.div_lt_iff_lt_mul (by omega)]; rw [Nat.pow_succ] at h; exact h)
     simp
     omega
theorem Jf {n : Nat} (h : n ≤ 9223372036854775807) : (Ref.decimal n).length ≤ 19 := Vp 18 n (by omega)
theorem O1 (a b : List UInt8) : (⟨a.toArray⟩ : ByteArray) ++ ⟨b.toArray⟩ = ⟨(a ++ b).toArray⟩ := by
 apply ByteArray.ext
 simp [ByteArray.data_append]
def j3 (n : Nat) : Str := [108, 111, 103, 45] ++ Ref.decimal n
def jq (n : Nat) : Str := [114, 117, 110, 45] ++ Ref.decimal n
set_option maxRecDepth 100000 in
theorem Q9 {E : Nat → Addr} {B : Nat} {w : World} (n : Nat) (hn : n ≤ 9223372036854775807) (H : Env E B w) :
   Calls Tryz.prog 63 #[.int .i64 n] w fun e w' => e = .returned (jc (j3 n)) ∧ ja w w' (fun _ => False) := by
 have hd := Jf hn
 go_enter Tryz.func63, Tryz.ntmps63
 go_wp2_with (go_at_call 104; refine (U5 n hn H).mono ?_; rintro e w' ⟨rfl, k1⟩)
 go_ret
 exact ⟨congrArg (fun x => Ending.returned (.string x)) (O1 [108, 111, 103, 45] (Ref.decimal n)), k1⟩
set_option maxRecDepth 100000 in
theorem ed {E : Nat → Addr} {B : Nat} {w : World} (n : Nat) (hn : n ≤ 9223372036854775807) (H : Env E B w) :
   Calls Tryz.prog 115 #[.int .i64 n] w fun e w' => e = .returned (jc (jq n)) ∧ ja w w' (fun _ => False) := by
 have hd := Jf hn
 go_enter Tryz.func115, Tryz.ntmps115
 go_wp2_with (go_at_call 104; refine (U5 n hn H).mono ?_; rintro e w' ⟨rfl, k1⟩)
 go_ret
 exact ⟨congrArg (fun x => Ending.returned (.string x)) (O1 [114, 117, 110, 45] (Ref.decimal n)), k1⟩
abbrev jf (n : Nat) : Value := .int .i64 n
def J2 (w : World) (v : Value) (l : List Nat) : Prop :=
 ∃ p c, v = .slice p l.length c ∧ l.length ≤ c ∧ c ≤ maxLen ∧ (p = none → c = 0) ∧ ∀ ad, p = some ad → ad.spot = none ∧ ∀ j u, l[j]? = some u → w.cell? (ad.add j) = some (jf u)
theorem J2.keep {w w' : World} {v : Value} {l : List Nat} {T : Nat → Prop} (h : J2 w v l) (hk : ja w w' T) (hT : l ≠ [] → ∀ p n c, v = .slice (some p) n c → ¬ T p.block) : J2 w' v l := by
 obtain ⟨p, c, rfl, h1, h2, h3, h4⟩ := h
 exact ⟨p, c, rfl, h1, h2, h3, fun ad e => ⟨(h4 ad e).1, fun j u hu => hk.cell ((h4 ad e).2 j u hu) (by rw [add_block]; exact hT (fun e => by rw [e] at hu; cases hu) ad _ _ (by rw [e]))⟩⟩
theorem J2.same {w w' : World} {v : Value} {l : List Nat} (h : J2 w v l) (hk : ja w w' (fun _ => False)) : J2 w' v l := h.keep hk (fun _ _ _ _ _ h => h)
theorem J2.nil (w : World) : J2 w (.slice none 0 0) [] := ⟨none, 0, rfl, Nat.le_refl _, Nat.zero_le _, fun _ => rfl, fun _ h => by cases h⟩
theorem Qh {w : World} {base n : Nat} {v : Value} {l : List Nat} (h : w.ownsRow base 3 1 v n (l.map jf)) (hn : l.length = n) : J2 w v l := by
 subst hn
 rcases h.2 with ⟨e, h0⟩ | ⟨g, cap, cur, e, _, hgg, h1, h2, _⟩
 · have : l = [] := List.eq_nil_of_length_eq_zero h0
   subst this
   rw [e]
   exact J2.nil w
 · refine ⟨some ⟨g, 0, none⟩, cap, e, h1, h2, (fun h => by cases h), fun ad had => ?_⟩
   cases had
   exact ⟨rfl, fun j u hu => h.cells (by rw [e]; rfl) j _ (by rw [List.getElem?_map, hu]; rfl)⟩
theorem J2.at {w : World} {p : Option Addr} {c : Nat} {l : List Nat} (h : J2 w (.slice p l.length c) l) {k : Nat} (hk : k < l.length) : ∃ b o, p = some ⟨b, o, none⟩ ∧ w.cell? ⟨b, o + k, none⟩ = some (jf l[k]) := by
 obtain ⟨p', c', e, h1, h2, h3, h4⟩ := h
 cases e
 cases p with
 | none => have := h3 rfl; omega
 | some ad =>
   obtain ⟨b, o, s⟩ := ad
   obtain ⟨hs, hc⟩ := h4 _ rfl
   simp only at hs
   subst hs
   refine ⟨b, o, rfl, ?_⟩
   have := hc k l[k] (by simp [hk])
   rwa [X7] at this
theorem U3 {w w' : World} {B : Nat} (h : Below B w w') (hB : w.heap.size ≤ B) : ja w w' (fun _ => False) := ⟨h.os, h.tape, h.output, h.size, fun k hk _ => h.block k (Nat.lt_of_lt_of_le hk hB)⟩
theorem kr (w : World) (v : Value) (l : List Nat) (hv : J2 w v l) (hl : l.length < 1099511627776) :
   Calls Tryz.prog 74 #[v] w fun e w' => ∃ p c, e = .returned (.slice p l.length c) ∧ w'.ownsRow w.heap.size 3 1 (.slice p l.length c) l.length (l.map jf) ∧ ja w w' (fun _ => False) := by
 obtain ⟨p, c, rfl, h1, h2, h3, h4⟩ := hv
 cases p with
 | none =>
   have : c = 0 := h3 rfl
   have hl : l = [] := List.eq_nil_of_length_eq_zero (by omega)
   subst hl
   refine (Tryz.slices_Clone_int_nil _ c w).mono ?_
   rintro e w' ⟨rfl, rfl⟩
   exact ⟨none, 0, rfl, World.ownsRow_nil _ _ _ _, ja.refl _ _⟩
 | some ad =>
   obtain ⟨b, o, s⟩ := ad
   obtain ⟨hs, hc⟩ := h4 _ rfl
   simp only at hs
   subst hs
   refine (Tryz.slices_Clone_int b o l.length c (l.map Int.ofNat) w (by simp) (by omega) (fun j hj => ?_)).mono ?_
   · have hj' : j < l.length := by simpa using hj
     have := hc j l[j] (by simp [hj'])
     rw [X7] at this
     rw [this]
     simp [hj']
   · rintro e w' ⟨v', rfl, hown, _, hb⟩
     obtain ⟨p', c', rfl⟩ := jh hown
     refine ⟨p', c', rfl, ?_, U3 hb (Nat.le_refl _)⟩
     have e1 : ((l.map Int.ofNat).take l.length).map (Value.int .i64) = l.map jf := by
       rw [List.take_of_length_le (by simp)]
       simp
     rw [e1] at hown
     exact hown
abbrev mo (m : Ref.Man) (rv : Value) : Value := .agg #[jf m.next, jf m.last, jf m.log, jf m.base, rv]
theorem Tryz.Ic : (Tryz.prog.info? 3).map (fun i => (i.zero, i.size, i.bytes)) = some (some (.int .i64 0), 1, 8) := by kernel_rfl
set_option maxHeartbeats 1000000 in
set_option maxRecDepth 100000 in
theorem Y2 (w : World) (m : Ref.Man) (rv : Value) (hv : J2 w rv m.runs) (hl : m.runs.length < 1048576) :
   Calls Tryz.prog 121 #[mo m rv] w fun e w' => ∃ p c, e = .returned (.slice p m.settled.length c) ∧ w'.ownsRow w.heap.size 3 1 (.slice p m.settled.length c) m.settled.length (m.settled.map jf) ∧ ja w w' (fun _ => False) := by
 obtain ⟨j0, hj, hy0, hy1, hy2⟩ := info_parts Tryz.Ic
 obtain ⟨next, last, log, base, runs⟩ := m
 simp only at hv hl
 obtain ⟨pr, cr, rfl, _⟩ := id hv
 have kA := ja.alloc w (.cells #[jf next, jf last, jf log, jf base, .slice pr runs.length cr] 117) (fun _ => False)
 have hS : Ref.Man.settled ⟨next, last, log, base, runs⟩ = if base = 0 then runs else runs ++ [base] := rfl
 rw [hS]
 rcases Nat.eq_zero_or_pos base with hb | hb
 · subst hb
   rw [if_pos rfl]
   go_enter Tryz.func121, Tryz.ntmps121
   go_wp2_with fail
   refine (kr _ _ runs (hv.same kA) (by omega)).mono ?_
   rintro e w1 ⟨p, c, rfl, hown, k1⟩
   have hc := k1.same (jd w _) id
   have c3 := cell_of_heap (o := 3) hc
   simp at c3
   clear hc
   go_wp2
   go_ret
   exact ⟨p, c, rfl, xx hown (by simp), kA.trans k1 (fun _ _ h => h)⟩
 · rw [if_neg (by omega)]
   have hb2 : ((base : Int) != 0) = true := by simp; omega
   have hb3 : ((base : Int) == 0) = false := by simp; omega
   go_enter Tryz.func121, Tryz.ntmps121
   go_wp2_with fail
   refine (kr _ _ runs (hv.same kA) (by omega)).mono ?_
   rintro e w1 ⟨p, c, rfl, hown, k1⟩
   have hc := k1.same (jd w _) id
   have c3 := cell_of_heap (o := 3) hc
   simp at c3
   clear hc
   have hownA := (xx hown (base' := w.heap.size) (by simp)).alloc (.cells #[jf base] 3)
   have h1 : ∀ u ∈ [jf base], u.oneCell' = true := by intro u hu; simp at hu; subst hu; rfl
   have h63 : Hid (runs.length + 1 ≤ maxLen) := by unfold Hid maxLen; omega
   have hbs : Hid ((runs.length + 1) * 8 ≤ 140737488355328) := by unfold Hid; omega
   have hbb : w.heap.size ≤ (w1.alloc (.cells #[jf base] 3)).heap.size := by have := k1.size; simp at this; simp; omega
   go_wp2_with (first | (at_builtin; go_must (refine jm _ rfl (.tmp 10) (.tmp 13) 39 rfl w.heap.size 3 j0 (.int .i64 0) 1 8 Tryz.underlying39 hj hy0 hy1 hy2 rfl Nat.zero_lt_one _ _ _ rfl hownA ⟨w1.heap.size, 0, none⟩ 1 1 [jf base] rfl rfl (cell_one_new _ _ _) h1 h63.out hbs.out hbb ?_); intro p3 cp3 w3 hown3 hg3 hloc3) | go_in)
   go_ret
   have el : (runs ++ [base]).length = runs.length + 1 := by simp
   rw [el]
   refine ⟨p3, cp3, rfl, by simpa using hown3, ?_⟩
   have hlt := hown.lt
   exact ((kA.trans k1 (fun _ _ h => h)).more _).grow hg3 (fun k e hk => by have := (hlt k e).1; simp at this; omega)
theorem Xn (ys : Array Value) (w : World) : (callFunc 121 ys).run Tryz.prog w = .ok (.enter 121 ys) w := by kernel_rfl
theorem ym (m : Ref.Man) : m.settled.length ≤ m.runs.length + 1 := by unfold Ref.Man.settled; split <;> simp
theorem Rf (n : Nat) : ∀ u ∈ [jf n], u.oneCell' = true := by intro u hu; simp at hu; subst hu; rfl
set_option maxHeartbeats 1000000 in
set_option maxRecDepth 100000 in
theorem Um (w : World) (m : Ref.Man) (rv : Value) (hv : J2 w rv m.runs) (hl : m.runs.length < 1048576) :
   Calls Tryz.prog 244 #[mo m rv] w fun e w' => ∃ p c, e = .returned (.slice p m.numbers.length c) ∧ w'.ownsRow w.heap.size 3 1 (.slice p m.numbers.length c) m.numbers.length (m.numbers.map jf) ∧ ja w w' (fun _ => False) := by
 obtain ⟨j0, hj, hy0, hy1, hy2⟩ := info_parts Tryz.Ic
 have hsl := ym m
 have hN : m.numbers = m.settled ++ [m.log] := rfl
 have hNl : m.numbers.length = m.settled.length + 1 := by rw [hN]; simp
 rw [hNl]
 have HN := hide hN
 clear hN hNl
 have hset := fun w' (h : J2 w' rv m.runs) => Y2 w' m rv h hl
 obtain ⟨next, last, log, base, runs⟩ := m
 simp only at hv hl hsl hset
 obtain ⟨pr, cr, rfl, _⟩ := id hv
 generalize Ref.Man.settled ⟨next, last, log, base, runs⟩ = S at hsl hset HN ⊢
 generalize Ref.Man.numbers ⟨next, last, log, base, runs⟩ = NN at HN ⊢
 have kA := ja.alloc w (.cells #[jf next, jf last, jf log, jf base, .slice pr runs.length cr] 117) (fun _ => False)
 have hT := jd w (.cells #[jf next, jf last, jf log, jf base, .slice pr runs.length cr] 117)
 have hvA : J2 (w.alloc (.cells #[jf next, jf last, jf log, jf base, .slice pr runs.length cr] 117)).drew (.slice pr runs.length cr) runs := hv.same kA.draw
 have hvB : ∀ o, J2 ((w.alloc (.cells #[jf next, jf last, jf log, jf base, .slice pr runs.length cr] 117)).alloc o).drew (.slice pr runs.length cr) runs := fun o => hv.same (kA.more o).draw
 have h63 : Hid (S.length + 1 ≤ maxLen) := by unfold Hid maxLen; omega
 have hbs : Hid ((S.length + 1) * 8 ≤ 140737488355328) := by unfold Hid; omega
 have HT := hide hT
 have HTop : Hid (∀ o, ((w.alloc (.cells #[jf next, jf last, jf log, jf base, .slice pr runs.length cr] 117)).alloc o).heap[w.heap.size + 1]? = some o) := by
   intro o
   have := jd (w.alloc (.cells #[jf next, jf last, jf log, jf base, .slice pr runs.length cr] 117)) o
   rwa [show (w.alloc (.cells #[jf next, jf last, jf log, jf base, .slice pr runs.length cr] 117)).heap.size = w.heap.size + 1 by simp] at this
 clear hT
 go_enter Tryz.func244, Tryz.ntmps244
 go_wp2_with fail
 go_region_law (first
   | (refine jo rfl 121 [.tmp 3] _ rfl Xn _ rfl (hset _ ?_) ?_
      exact hvA
      rintro e w1 ⟨p1, c1, rfl, hown1, k1⟩
      have k1' : ja w w1 (fun _ => False) := ja.trans kA.draw k1 (fun _ _ h => h)
      have hc := k1.same HT.out id
      have c2 := cell_of_heap (o := 2) hc
      simp at c2
      clear hc
      have hown1' := xx hown1 (base' := w.heap.size) kA.size
      refine ⟨_, rfl, ?_⟩)
   | (refine jo rfl 121 [.tmp 3] _ rfl Xn _ rfl (hset _ ?_) ?_
      exact hvB _
      rintro e w1 ⟨p1, c1, rfl, hown1, k1⟩
      have k1' : ja w w1 (fun _ => False) := ja.trans (kA.more _).draw k1 (fun _ _ h => h)
      have hown1' := xx hown1 (base' := w.heap.size) (kA.more _).size
      have hnew1 := k1.same (HTop.out (.cells #[jf log] 3)) id
      refine ⟨_, rfl, ?_⟩)
   | (refine zn rfl (.tmp 4) (.tmp 7) 39 rfl w.heap.size 3 j0 (.int .i64 0) 1 8 Tryz.underlying39 hj hy0 hy1 hy2 rfl Nat.zero_lt_one _ _ _ rfl (hown1'.alloc _) ⟨w1.heap.size, 0, none⟩ 1 1 [jf log] rfl rfl (cell_one_new _ _ _) (Rf log) h63.out hbs.out (k1'.more _).size ?_
      intro p3 cp3 w3 hown3 hg3 hloc3
      have kk : ja w w3 (fun _ => False) := (k1'.more _).grow hg3 (fun k e hk => by have := (hown1'.lt k e).1; omega))
   | (refine zn rfl (.tmp 4) (.tmp 7) 39 rfl w.heap.size 3 j0 (.int .i64 0) 1 8 Tryz.underlying39 hj hy0 hy1 hy2 rfl Nat.zero_lt_one _ _ _ rfl hown1' _ 1 1 [jf log] rfl rfl (Qc hnew1 rfl) (Rf log) h63.out hbs.out k1'.size ?_
      intro p3 cp3 w3 hown3 hg3 hloc3
      have kk : ja w w3 (fun _ => False) := k1'.grow hg3 (fun k e hk => by have := (hown1'.lt k e).1; omega)))
 all_goals
   go_wp2
   go_ret
   refine ⟨p3, cp3, rfl, ?_, kk⟩
   rw [HN.out]
   simpa using hown3
theorem strCells (l : List Str) : ∀ u ∈ l.map jc, u.oneCell' = true := by
 intro u hu
 obtain ⟨_, _, rfl⟩ := List.mem_map.1 hu
 rfl
theorem Re (s : Str) : ∀ u ∈ [jc s], u.oneCell' = true := strCells [s]
set_option maxHeartbeats 1000000 in
set_option maxRecDepth 100000 in
theorem o6 {E : Nat → Addr} {B : Nat} {w : World} (v : Value) (l : List Nat) (H : Env E B w) (hv : J2 w v l) (hl : l.length < 1048577) (hs : ∀ n ∈ l, n ≤ 9223372036854775807) :
   Calls Tryz.prog 120 #[v] w fun e w' => ∃ p c, e = .returned (.slice p l.length c) ∧ w'.ownsRow w.heap.size 9 1 (.slice p l.length c) l.length ((l.map jq).map jc) ∧ ja w w' (fun _ => False) := by
 obtain ⟨j0, hj, hy0, hy1, hy2⟩ := info_parts Tryz.Ei
 obtain ⟨pv, cv, rfl, _⟩ := id hv
 go_enter Tryz.func120, Tryz.ntmps120
 go_wp2_with fail
 go_loopw [3, 8] (fun b i wr => ∃ (k : Nat) (p : Option Addr) (c : Nat), k ≤ l.length ∧ i = .int .i64 k ∧ b = .slice p k c ∧
     wr.ownsRow w.heap.size 9 1 (.slice p k c) k (((l.take k).map jq).map jc) ∧ ja w wr (fun _ => False))
   (fun _ i _ => l.length - (intOf i).toNat)
 case atStart => exact ⟨0, none, 0, Nat.zero_le _, rfl, rfl, World.ownsRow_nil _ _ _ _, ja.refl _ _⟩
 case round =>
   obtain ⟨k, p, c, hk, rfl, rfl, hown, hkw⟩ := hrel
   rcases Nat.lt_or_ge k l.length with hlt | hge
   · obtain ⟨b, o, rfl, e0⟩ := (hv.same hkw).at hlt
     have hsk := hs l[k] (List.getElem_mem hlt)
     have HR := H.same hkw
     go_wp2_with fail
     refine (ed l[k] hsk HR).mono ?_
     rintro e w1 ⟨rfl, k1⟩
     have kk := hkw.trans k1 (fun _ _ h => h)
     have hown1 := k1.row hown (fun _ _ h => h)
     have hownA := hown1.alloc (.cells #[jc (jq l[k])] 9)
     have h63 : Hid (k + 1 ≤ maxLen) := by unfold Hid maxLen; omega
     have hbs : Hid ((k + 1) * 16 ≤ 140737488355328) := by unfold Hid; omega
     have hstep : ((l.take (k + 1)).map jq).map jc = ((l.take k).map jq).map jc ++ [jc (jq l[k])] := by
       rw [List.take_succ_eq_append_getElem hlt, List.map_append, List.map_append]
       rfl
     have HS := hide hstep
     clear hstep hown
     go_wp2_with (first | (at_builtin; go_must (refine jm _ rfl (.tmp 12) (.tmp 15) 40 rfl w.heap.size 9 j0 (.string ⟨#[]⟩) 1 16 Tryz.underlying40 hj hy0 hy1 hy2 rfl Nat.zero_lt_one _ _ _ rfl hownA ⟨w1.heap.size, 0, none⟩ 1 1 [jc (jq l[k])] rfl rfl (cell_one_new _ _ _) (Re _) h63.out hbs.out (kk.more _).size ?_); intro p3 cp3 w3 hown3 hg3 hloc3) | go_in)
     have k3 : ja w w3 (fun _ => False) := (kk.more _).grow hg3 (fun j e hj => by have := (hown1.lt j e).1; omega)
     rw [← HS.out] at hown3
     exact ⟨⟨k + 1, p3, cp3, by omega, by simp, rfl, hown3, k3⟩, by simp [intOf]; omega⟩
   · have ek : k = l.length := by omega
     subst ek
     rw [List.take_length] at hown
     go_wp2
     go_ret
     exact ⟨p, c, rfl, hown, hkw⟩
def qi (m : Ref.Man) : List Str := m.settled.map jq ++ [j3 m.log]
theorem bq (ys : Array Value) (w : World) : (callFunc 120 ys).run Tryz.prog w = .ok (.enter 120 ys) w := by kernel_rfl
theorem Qm (ys : Array Value) (w : World) : (callFunc 63 ys).run Tryz.prog w = .ok (.enter 63 ys) w := by kernel_rfl
set_option maxHeartbeats 1000000 in
set_option maxRecDepth 100000 in
theorem Ed {E : Nat → Addr} {B : Nat} {w : World} (m : Ref.Man) (rv : Value) (H : Env E B w) (hv : J2 w rv m.runs) (hl : m.runs.length < 1048576) (hs : ∀ n ∈ m.settled, n ≤ 9223372036854775807) (hlog : m.log ≤ 9223372036854775807) :
   Calls Tryz.prog 165 #[mo m rv] w fun e w' => ∃ p c, e = .returned (.slice p (qi m).length c) ∧ w'.ownsRow w.heap.size 9 1 (.slice p (qi m).length c) (qi m).length ((qi m).map jc) ∧ ja w w' (fun _ => False) := by
 obtain ⟨j0, hj, hy0, hy1, hy2⟩ := info_parts Tryz.Ei
 have hsl := ym m
 have hF : qi m = m.settled.map jq ++ [j3 m.log] := rfl
 have hFl : (qi m).length = m.settled.length + 1 := by rw [hF]; simp
 rw [hFl]
 have HF := hide hF
 clear hF hFl
 have hset := fun w' (h : J2 w' rv m.runs) => Y2 w' m rv h hl
 generalize qi m = FF at HF ⊢
 obtain ⟨next, last, log, base, runs⟩ := m
 simp only at hv hl hsl hset hs hlog HF
 obtain ⟨pr, cr, rfl, _⟩ := id hv
 generalize Ref.Man.settled ⟨next, last, log, base, runs⟩ = S at hsl hset HF hs ⊢
 have kA := ja.alloc w (.cells #[jf next, jf last, jf log, jf base, .slice pr runs.length cr] 117) (fun _ => False)
 have hT := jd w (.cells #[jf next, jf last, jf log, jf base, .slice pr runs.length cr] 117)
 have hvA : J2 (w.alloc (.cells #[jf next, jf last, jf log, jf base, .slice pr runs.length cr] 117)).drew (.slice pr runs.length cr) runs := hv.same kA.draw
 have h63 : Hid (S.length + 1 ≤ maxLen) := by unfold Hid maxLen; omega
 have hbs : Hid ((S.length + 1) * 16 ≤ 140737488355328) := by unfold Hid; omega
 have hsm : S.length < 1048577 := by omega
 have HT := hide hT
 clear hT
 go_enter Tryz.func165, Tryz.ntmps165
 go_wp2_with fail
 go_region_law (first
   | (refine jo rfl 121 [.tmp 3] _ rfl Xn _ rfl (hset _ hvA) ?_
      rintro e w1 ⟨p1, c1, rfl, hown1, k1⟩
      have K1 : ja w w1 (fun _ => False) := ja.trans kA.draw k1 (fun _ _ h => h)
      have hc1 := k1.same HT.out id
      have c2 := cell_of_heap (o := 2) hc1
      simp at c2
      have HC1 := hide hc1
      clear hc1
      have hN1 := Qh hown1 rfl
      refine ⟨_, rfl, ?_⟩)
   | (refine jo rfl 120 [.tmp 4] _ rfl bq _ rfl (o6 _ S (H.same K1) hN1 hsm hs) ?_
      rintro e w2 ⟨p2, c2', rfl, hown2, k2⟩
      have K2 : ja w w2 (fun _ => False) := K1.trans k2 (fun _ _ h => h)
      have hc2 := k2.same HC1.out id
      have c2 := cell_of_heap (o := 2) hc2
      simp at c2
      clear hc2
      refine ⟨_, rfl, ?_⟩)
   | (refine jo rfl 63 [.tmp 7] _ rfl Qm _ rfl (Q9 log hlog (H.same K2)) ?_
      rintro e w3 ⟨rfl, k3⟩
      have K3 : ja w w3 (fun _ => False) := K2.trans k3 (fun _ _ h => h)
      have hown3 := xx (k3.row hown2 (fun _ _ h => h)) (base' := w.heap.size) K1.size
      refine ⟨_, rfl, ?_⟩)
   | (refine zn rfl (.tmp 5) (.tmp 9) 40 rfl w.heap.size 9 j0 (.string ⟨#[]⟩) 1 16 Tryz.underlying40 hj hy0 hy1 hy2 rfl Nat.zero_lt_one _ _ _ rfl (hown3.alloc _) ⟨w3.heap.size, 0, none⟩ 1 1 [jc (j3 log)] rfl rfl (cell_one_new _ _ _) (Re _) h63.out hbs.out (K3.more _).size ?_
      intro p4 cp4 w4 hown4 hg4 hloc4
      have kk : ja w w4 (fun _ => False) := (K3.more _).grow hg4 (fun k e hk => by have := (hown3.lt k e).1; omega)))
 all_goals
   go_wp2
   go_ret
   refine ⟨p4, cp4, rfl, ?_, kk⟩
   rw [HF.out]
   simpa using hown4
set_option maxRecDepth 100000 in
theorem gu {w : World} {b next : Nat} {x1 x2 x3 x4 : Value} (h : w.heap[b]? = some (.cells #[jf next, x1, x2, x3, x4] 117 (0, 0))) (hn : next < 2000000000) :
   Calls Tryz.prog 110 #[.pointer (some ⟨b, 0, none⟩)] w fun e w' => e = .returned (.tuple #[jf next, .nilIface]) ∧ w'.heap[b]? = some (.cells #[jf (next + 1), x1, x2, x3, x4] 117 (0, 0)) ∧ ja w w' (fun i => i = b) := by
 have c0 := cell_of_heap (o := 0) h
 have f0 := frozen_of_heap (o := 0) h
 simp at c0
 have HH := hide h
 clear h
 have hd : decide ((2000000000 : Int) ≤ (next : Int)) = false := by rw [decide_eq_false_iff_not]; omega
 have hd2 : (next : Int) < 2000000000 := by omega
 have hcell : (w.setCell ⟨b, 0, none⟩ (.int .i64 ((next : Int) + 1))).cell? ⟨b, 0, none⟩ = some (.int .i64 ((next : Int) + 1)) := by
   rw [cell_of_heap (jb HH.out _)]
   simp
 clear hn
 go_enter Tryz.func110, Tryz.ntmps110
 go_wp2
 go_ret2
 refine ⟨by simp, ?_, ja.setCell w _ _⟩
 rw [jb HH.out]
 simp
abbrev ku (l : List Nat) : List UInt8 := l.flatMap fun r => Ref.big r 8
theorem gm (l : List Nat) : (ku l).length = 8 * l.length := by
 induction l with
 | nil => rfl
 | cons x r ih => simp only [ku, List.flatMap_cons, List.length_append, Ref.jk, List.length_cons] at ih ⊢; omega
theorem Az {l : List Nat} {k : Nat} (h : k < l.length) : ku (l.take (k + 1)) = ku (l.take k) ++ Ref.big l[k] 8 := by
 rw [List.take_succ_eq_append_getElem h]
 simp only [ku, List.flatMap_append, List.flatMap_cons, List.flatMap_nil, List.append_nil]
set_option maxHeartbeats 1000000 in
set_option maxRecDepth 100000 in
theorem Rm (w : World) (m : Ref.Man) (rv : Value) (hv : J2 w rv m.runs) (hl : m.runs.length < 1048576) (hg : m.next < 18446744073709551616 ∧ m.last < 18446744073709551616 ∧ m.log < 18446744073709551616 ∧ m.base < 18446744073709551616 ∧ ∀ r ∈ m.runs, r < 18446744073709551616)
   (hi : (m.next : Int) ≤ 9223372036854775807 ∧ (m.last : Int) ≤ 9223372036854775807 ∧ (m.log : Int) ≤ 9223372036854775807 ∧ (m.base : Int) ≤ 9223372036854775807 ∧ ∀ r ∈ m.runs, (r : Int) ≤ 9223372036854775807) :
   Calls Tryz.prog 166 #[mo m rv] w fun e w' => ∃ p c, e = .returned (.slice p m.bytes.length c) ∧ w'.ownsRow w.heap.size 5 1 (.slice p m.bytes.length c) m.bytes.length (m.bytes.map qg) ∧ ja w w' (fun _ => False) := by
 obtain ⟨next, last, log, base, runs⟩ := m
 simp only at hv hl hg hi
 obtain ⟨g1, g2, g3, g4, g5⟩ := hg
 obtain ⟨i1, i2, i3, i4, i5⟩ := hi
 have hB : Ref.Man.bytes ⟨next, last, log, base, runs⟩ = Ref.frame (ku [next, last, log, base] ++ Ref.big runs.length 2 ++ ku runs) := by simp [Ref.Man.bytes, Ref.manifest, ku]
 have HB := hide hB
 clear hB
 generalize Ref.Man.bytes ⟨next, last, log, base, runs⟩ = BB at HB ⊢
 obtain ⟨pr, cr, rfl, _⟩ := id hv
 have kA := ja.alloc w (.cells #[jf next, jf last, jf log, jf base, .slice pr runs.length cr] 117) (fun _ => False)
 have hT := jd w (.cells #[jf next, jf last, jf log, jf base, .slice pr runs.length cr] 117)
 generalize hwA : w.alloc (.cells #[jf next, jf last, jf log, jf base, .slice pr runs.length cr] 117) = wA at kA hT
 have kL := ja.alloc wA (.cells #[jf next, jf last, jf log, jf base] 3) (fun _ => False)
 have hL := jd wA (.cells #[jf next, jf last, jf log, jf base] 3)
 have hall : ∀ x ∈ [next, last, log, base], x < 18446744073709551616 ∧ (x : Int) ≤ 9223372036854775807 := by
   intro x hx
   simp at hx
   rcases hx with rfl | rfl | rfl | rfl
   · exact ⟨g1, i1⟩
   · exact ⟨g2, i2⟩
   · exact ⟨g3, i3⟩
   · exact ⟨g4, i4⟩
 have HALL := hide hall
 clear hall g1 g2 g3 g4 i1 i2 i3 i4
 have a0 := cell_of_heap (o := 0) hT
 have a1 := cell_of_heap (o := 1) hT
 have a2 := cell_of_heap (o := 2) hT
 have a3 := cell_of_heap (o := 3) hT
 simp at a0 a1 a2 a3
 have hLN : J2 (wA.alloc (.cells #[jf next, jf last, jf log, jf base] 3)) (.slice (some ⟨wA.heap.size, 0, none⟩) [next, last, log, base].length 4) [next, last, log, base] := by
   refine ⟨_, _, rfl, by simp, by unfold maxLen; omega, (fun h => by cases h), fun ad e => ?_⟩
   cases e
   refine ⟨rfl, fun j u hu => ?_⟩
   refine Qc hL rfl j (jf u) ?_
   have : ([next, last, log, base].map jf)[j]? = some (jf u) := by rw [List.getElem?_map, hu]; rfl
   exact this
 have kAL := kA.trans kL (fun _ _ h => h)
 have HT := hide (kL.same hT id)
 clear hT hL
 generalize hwL : wA.alloc (.cells #[jf next, jf last, jf log, jf base] 3) = wL at kL hLN kAL HT
 generalize hF : [next, last, log, base] = FOUR at hLN HB HALL
 have hF4 : FOUR.length = 4 := by rw [← hF]; rfl
 have HF4 := hide hF4
 rw [hF4] at hLN
 clear hF4 hF
 go_enter Tryz.func166, Tryz.ntmps166
 go_wp2_with fail
 go_loopw [3, 18] (fun b i wr => ∃ (k : Nat) (p : Option Addr) (c : Nat), k ≤ 4 ∧ i = .int .i64 k ∧ b = .slice p (8 * k) c ∧
     wr.ownsRow wL.heap.size 5 1 (.slice p (8 * k) c) (8 * k) ((ku (FOUR.take k)).map qg) ∧ ja wL wr (fun _ => False))
   (fun _ i _ => 4 - (intOf i).toNat)
 case atStart => exact ⟨0, none, 0, Nat.zero_le _, rfl, rfl, World.ownsRow_nil _ _ _ _, ja.refl _ _⟩
 case round =>
   obtain ⟨k, p, c, hk, rfl, rfl, hown, hkw⟩ := hrel
   rcases Nat.lt_or_ge k 4 with hlt | hge
   · have hltF : k < FOUR.length := by rw [HF4.out]; exact hlt
     have hLNr := hLN.same hkw
     rw [← HF4.out] at hLNr
     obtain ⟨b, o, eb, e0⟩ := hLNr.at hltF
     cases eb
     rw [Nat.zero_add] at e0
     obtain ⟨hx1, hx2⟩ := HALL.out FOUR[k] (List.getElem_mem hltF)
     have hcv : ((FOUR[k] : Nat) : Int) % 18446744073709551616 = (FOUR[k] : Nat) := by omega
     have hstep := Az hltF
     have HS := hide hstep
     clear hstep
     have hXl : (ku (FOUR.take k)).length = 8 * k := by rw [gm]; simp; omega
     generalize ku (FOUR.take k) = F at hown HS hXl
     have hm : 8 * k < 1099511627776 := by omega
     have hlt2 := hown.lt
     go_wp2_with (go_at_call 107; refine (zw (.slice p (8 * k) c) (8 * k) F FOUR[k] 8 wL.heap.size wr hXl hx1 (Nat.le_refl _) hm hkw.size hown).mono ?_; rintro e w' ⟨p4, c4, rfl, hown4, hgr4⟩)
     have e5 : 8 * k + 8 = 8 * (k + 1) := by omega
     rw [e5] at hown4 hgr4 ⊢
     rw [← HS.out] at hown4
     exact ⟨⟨k + 1, p4, c4, by omega, by simp, rfl, hown4, hkw.trans hgr4.keeps (fun i hi e => by have := (hlt2 i e.symm).1; omega)⟩, by simp [intOf]; omega⟩
   · have ek : k = 4 := by omega
     subst ek
     rw [List.take_of_length_le (by rw [HF4.out]; exact Nat.le_refl _)] at hown
     have hT2 := hkw.same HT.out id
     have b4 := cell_of_heap (o := 4) hT2
     simp at b4
     have HT2 := hide hT2
     clear hT2
     have hX1 : (ku FOUR).length = 32 := by rw [gm, HF4.out]
     have hlt2 := hown.lt
     have hrl : ((runs.length : Nat) : Int) % 18446744073709551616 = (runs.length : Nat) := by omega
     go_wp2_with fail
     refine (zw (.slice p 32 c) 32 (ku FOUR) runs.length 2 wL.heap.size wr hX1 (by omega) (by omega) (by omega) hkw.size hown).mono ?_
     rintro e w1 ⟨p1, c1, rfl, hown1, hgr1⟩
     have K1 : ja wL w1 (fun _ => False) := hkw.trans hgr1.keeps (fun i hi e => by have := (hlt2 i e.symm).1; omega)
     have hT3 := K1.same HT.out id
     have b4 := cell_of_heap (o := 4) hT3
     simp at b4
     clear hT3 hlt2 hown hrl
     have hvr := hv.same (kAL.trans K1 (fun _ _ h => h))
     simp only [Nat.reduceAdd] at hown1 ⊢
     have hX2 : (ku FOUR ++ Ref.big runs.length 2).length = 34 := by rw [List.length_append, hX1, Ref.jk]
     generalize ku FOUR ++ Ref.big runs.length 2 = HEAD at hown1 HB hX2
     have HX2 := hide hX2
     clear hX1 hX2
     go_wp2_with fail
     go_loopw [3, 36] (fun b i wr => ∃ (k : Nat) (p : Option Addr) (c : Nat), k ≤ runs.length ∧ i = .int .i64 k ∧ b = .slice p (34 + 8 * k) c ∧
         wr.ownsRow wL.heap.size 5 1 (.slice p (34 + 8 * k) c) (34 + 8 * k) ((HEAD ++ ku (runs.take k)).map qg) ∧ ja wL wr (fun _ => False))
       (fun _ i _ => runs.length - (intOf i).toNat)
     case atStart => exact ⟨0, p1, c1, Nat.zero_le _, rfl, rfl, by simpa [ku] using hown1, K1⟩
     case round =>
       obtain ⟨k, p, c, hk, rfl, rfl, hown, hkw2⟩ := hrel
       rcases Nat.lt_or_ge k runs.length with hlt | hge
       · have hvk := hv.same (kAL.trans hkw2 (fun _ _ h => h))
         obtain ⟨b, o, rfl, e0⟩ := hvk.at hlt
         have hx1 := g5 runs[k] (List.getElem_mem hlt)
         have hx2 := i5 runs[k] (List.getElem_mem hlt)
         have hcv : ((runs[k] : Nat) : Int) % 18446744073709551616 = (runs[k] : Nat) := by omega
         have hstep := Az hlt
         have HS := hide hstep
         clear hstep
         have hXl : (HEAD ++ ku (runs.take k)).length = 34 + 8 * k := by rw [List.length_append, HX2.out, gm]; simp; omega
         have HXL := hide hXl
         clear hXl
         have hm : 34 + 8 * k < 1099511627776 := by omega
         have hlt2 := hown.lt
         go_wp2_with (go_at_call 107; refine (zw (.slice p (34 + 8 * k) c) (34 + 8 * k) (HEAD ++ ku (runs.take k)) runs[k] 8 wL.heap.size wr HXL.out hx1 (Nat.le_refl _) hm hkw2.size hown).mono ?_; rintro e w' ⟨p4, c4, rfl, hown4, hgr4⟩)
         have e5 : 34 + 8 * k + 8 = 34 + 8 * (k + 1) := by omega
         rw [e5] at hown4 hgr4 ⊢
         rw [List.append_assoc, ← HS.out] at hown4
         have kk := hkw2.trans hgr4.keeps (fun i hi e => by have := (hlt2 i e.symm).1; omega)
         refine ⟨?_, by simp [intOf]; omega⟩
         first
           | exact ⟨k + 1, p4, c4, by omega, by simp, rfl, hown4, kk⟩
           | ((repeat apply Exists.intro)
              refine ⟨?_, rfl⟩
              exact ⟨k + 1, p4, c4, by omega, by simp, rfl, hown4, kk⟩)
       · have ek : k = runs.length := by omega
         subst ek
         rw [List.take_length] at hown
         have hXl : (HEAD ++ ku runs).length = 34 + 8 * runs.length := by rw [List.length_append, HX2.out, gm]
         generalize HEAD ++ ku runs = ALL at hown HB hXl
         rw [← hXl] at hown ⊢
         have hAl : ALL.length < 1099511627776 := by omega
         have hBl : Hid (BB.length = 8 + ALL.length) := by unfold Hid; rw [HB.out]; simp [Ref.frame, Ref.jk]; omega
         have hlt2 := hown.lt
         clear hXl
         go_wp2_with fail
         refine (mr _ ALL wr (bytes_of_row hown) hAl).mono ?_
         rintro e w5 ⟨p5, c5, rfl, hown5, k5⟩
         go_wp2
         go_ret
         rw [hBl.out, HB.out]
         exact ⟨p5, c5, rfl, xx hown5 (Nat.le_trans kAL.size hkw2.size), kAL.trans (hkw2.trans k5 (fun _ _ h => h)) (fun _ _ h => h)⟩
def jgi (E : Nat → Addr) (w : World) (r : Nat) (res : Option (Nat × List UInt8)) (e : Ending) (w' : World) : Prop :=
 ja w w' (fun i => i = r) ∧ ((∃ x q, res = some (x, q) ∧ e = .returned (.tuple #[jf x, .nilIface]) ∧ Rd w' r q) ∨ (∃ v, res = none ∧ e = .returned (.tuple #[jf 0, v]) ∧ dh E w' v))
set_option maxHeartbeats 400000 in
set_option maxRecDepth 100000 in
theorem Ag {E : Nat → Addr} {B : Nat} {w : World} {r : Nat} {l : List UInt8} (S : Q0 E B w) (hB : B ≤ r) (hr : Rd w r l) :
   Calls Tryz.prog 241 #[.pointer (some ⟨r, 0, none⟩)] w (jgi E w r (Ref.Bd l)) := by
 have hR : Ref.Bd l = if 8 ≤ l.length ∧ Ref.number (l.take 8) ≤ 2000000000 then some (Ref.number (l.take 8), l.drop 8) else none := rfl
 rcases Nat.lt_or_ge l.length 8 with h8 | h8
 · rw [if_neg (by omega)] at hR
   rw [hR]
   clear hR
   go_enter Tryz.func241, Tryz.ntmps241
   go_wp2_with fail
   refine (Qi (n := 8) S hr (by omega) (by omega)).mono ?_
   rintro e w1 ⟨v, rfl, he, hr1, k1⟩
   obtain ⟨t, a, rfl⟩ := he.shape
   go_wp2
   go_ret2
   exact ⟨Qb k1, .inr ⟨_, rfl, rfl, .of he (by decide)⟩⟩
 · rcases Nat.lt_or_ge 2000000000 (Ref.number (l.take 8)) with hn | hn
   · rw [if_neg (by omega)] at hR
     rw [hR]
     clear hR
     have hd : decide ((2000000000 : Int) < ((Ref.number (l.take 8) : Nat) : Int)) = true := by rw [decide_eq_true_iff]; omega
     have hd2 : (2000000000 : Int) < ((Ref.number (l.take 8) : Nat) : Int) := by omega
     clear hn
     go_enter Tryz.func241, Tryz.ntmps241
     go_wp2_with fail
     refine (y8 (n := 8) hr h8 (by omega)).mono ?_
     rintro e w1 ⟨rfl, hr1, k1⟩
     generalize Ref.number (l.take 8) = N at hd hd2 ⊢
     have S1 := S.keep k1 (fun i e => by rw [e]; exact hB)
     have s4 := S1.cell 4 (by decide)
     go_wp2_with fail
     go_region
     all_goals
       go_wp2
       go_ret2
       exact ⟨k1.draw, .inr ⟨_, rfl, rfl, .of (.base _ (by decide)) (by decide)⟩⟩
   · rw [if_pos ⟨h8, hn⟩] at hR
     rw [hR]
     clear hR
     have hd : decide ((2000000000 : Int) < ((Ref.number (l.take 8) : Nat) : Int)) = false := by rw [decide_eq_false_iff_not]; omega
     have hd2 : ((Ref.number (l.take 8) : Nat) : Int) ≤ (2000000000 : Int) := by omega
     clear hn
     go_enter Tryz.func241, Tryz.ntmps241
     go_wp2_with fail
     refine (y8 (n := 8) hr h8 (by omega)).mono ?_
     rintro e w1 ⟨rfl, hr1, k1⟩
     generalize hN : Ref.number (l.take 8) = N at hd hd2 ⊢
     have HN := hide hN
     clear hN
     go_wp2
     go_ret2
     exact ⟨k1, .inl ⟨_, _, rfl, by rw [HN.out]; simp, hr1⟩⟩
abbrev Y9 (xs : List Nat) (rv : Value) : Array Value := #[jf (xs.getD 0 0), jf (xs.getD 1 0), jf (xs.getD 2 0), jf (xs.getD 3 0), rv]
theorem Rn {xs : List Nat} {k : Nat} (v : Nat) (rv : Value) (h : xs.length = k) (hk : k < 4) : (Y9 xs rv).setIfInBounds k (jf v) = Y9 (xs ++ [v]) rv := by
 subst h
 match xs, hk with
 | [], _ => simp [Y9]
 | [a], _ => simp [Y9]
 | [a, b], _ => simp [Y9]
 | [a, b, c], _ => simp [Y9]
theorem Ur {xs : List Nat} {k : Nat} (rv : Value) (hk : k < 4) : ∃ n, (Y9 xs rv)[k]? = some (jf n) := by
 match k, hk with
 | 0, _ => exact ⟨_, rfl⟩
 | 1, _ => exact ⟨_, rfl⟩
 | 2, _ => exact ⟨_, rfl⟩
 | 3, _ => exact ⟨_, rfl⟩
def um (xs : List Nat) : Option (List Nat × List UInt8) → Option (List Nat × List UInt8)
 | none => none
 | some (ys, q) => some (xs ++ ys, q)
theorem Kh {xs : List Nat} {n x : Nat} {q q' : List UInt8} (h : Ref.Bd q = some (x, q')) : um xs (Ref.qx (n + 1) q) = um (xs ++ [x]) (Ref.qx n q') := by
 rw [Ref.qx, h]
 simp only
 cases Ref.qx n q' with
 | none => rfl
 | some x => simp [um]
theorem Ki {xs : List Nat} {n : Nat} {q : List UInt8} (h : Ref.Bd q = none) : um xs (Ref.qx (n + 1) q) = none := by
 rw [Ref.qx, h]
 rfl
theorem jel {w : World} {b n l g s : Nat} {p : Option Addr} {k c : Nat} (h : w.heap[b]? = some (.cells #[jf n, jf l, jf g, jf s, .slice p k c] 117 (0, 0))) : (loadVar 117 ⟨b, 0, none⟩).run Tryz.prog w = .ok (.agg #[jf n, jf l, jf g, jf s, .slice p k c]) w := by
 have c0 := cell_of_heap (o := 0) h
 have c1 := cell_of_heap (o := 1) h
 have c2 := cell_of_heap (o := 2) h
 have c3 := cell_of_heap (o := 3) h
 have c4 := cell_of_heap (o := 4) h
 simp at c0 c1 c2 c3 c4
 go_simp
theorem Ad {fn : Func} {t u : Tmp} (h : fn.results = #[.cell t 117, .tmp u]) {tmps : Array Value} {w : World} {b n l g s : Nat} {p : Option Addr} {k c : Nat} (ht : tmps.getD t undef = .pointer (some ⟨b, 0, none⟩))
   (hb : w.heap[b]? = some (.cells #[jf n, jf l, jf g, jf s, .slice p k c] 117 (0, 0))) :
   (results fn tmps).run Tryz.prog w = .ok (.tuple #[.agg #[jf n, jf l, jf g, jf s, .slice p k c], tmps.getD u undef]) w := by
 have hl := jel hb
 have ht' : tmps[t]?.getD undef = .pointer (some ⟨b, 0, none⟩) := by simpa using ht
 simp [results, h, ht', asAddr, hl]
theorem J9 {w : World} {b n l g s : Nat} {v : Value} (h : w.heap[b]? = some (.cells #[jf n, jf l, jf g, jf s, v] 117 (0, 0))) :
   (w.cell? ⟨b, 0, none⟩ = some (jf n) ∧ w.cell? ⟨b, 1, none⟩ = some (jf l) ∧ w.cell? ⟨b, 2, none⟩ = some (jf g) ∧ w.cell? ⟨b, 3, none⟩ = some (jf s) ∧ w.cell? ⟨b, 4, none⟩ = some v) ∧ ∀ o, w.frozen? ⟨b, o, none⟩ = false := by
 have c0 := cell_of_heap (o := 0) h
 have c1 := cell_of_heap (o := 1) h
 have c2 := cell_of_heap (o := 2) h
 have c3 := cell_of_heap (o := 3) h
 have c4 := cell_of_heap (o := 4) h
 simp at c0 c1 c2 c3 c4
 exact ⟨⟨c0, c1, c2, c3, c4⟩, fun o => frozen_of_heap h⟩
abbrev Wh (w : World) (b : Nat) (x0 x1 x2 x3 x4 : Value) : World := ((((w.setCell ⟨b, 0, none⟩ x0).setCell ⟨b, 1, none⟩ x1).setCell ⟨b, 2, none⟩ x2).setCell ⟨b, 3, none⟩ x3).setCell ⟨b, 4, none⟩ x4
theorem wm {w : World} {b : Nat} {y0 y1 y2 y3 y4 : Value} {t : TypeId} {fz : Nat × Nat} (h : w.heap[b]? = some (.cells #[y0, y1, y2, y3, y4] t fz)) (x0 x1 x2 x3 x4 : Value) : (Wh w b x0 x1 x2 x3 x4).heap[b]? = some (.cells #[x0, x1, x2, x3, x4] t fz) := by
 have h1 := jb (o := 0) h x0
 have h2 := jb (o := 1) h1 x1
 have h3 := jb (o := 2) h2 x2
 have h4 := jb (o := 3) h3 x3
 have h5 := jb (o := 4) h4 x4
 simpa using h5
theorem Zu (w : World) (b : Nat) (x0 x1 x2 x3 x4 : Value) : ja w (Wh w b x0 x1 x2 x3 x4) (fun i => i = b) :=
 (((((ja.refl w (fun i => i = b)).set (p := ⟨b, 0, none⟩) rfl x0).set (p := ⟨b, 1, none⟩) rfl x1).set (p := ⟨b, 2, none⟩) rfl x2).set (p := ⟨b, 3, none⟩) rfl x3).set (p := ⟨b, 4, none⟩) rfl x4
def Tc (E : Nat → Addr) (w : World) (T : Nat → Prop) (res : Option Ref.Man) (e : Ending) (w' : World) : Prop :=
 ja w w' T ∧ ((∃ m p c, res = some m ∧ e = .returned (.tuple #[mo m (.slice p m.runs.length c), .nilIface]) ∧ w'.ownsRow w.heap.size 3 1 (.slice p m.runs.length c) m.runs.length (m.runs.map jf)) ∨
   (∃ v, res = none ∧ e = .returned (.tuple #[mo ⟨0, 0, 0, 0, []⟩ (.slice none 0 0), v]) ∧ dh E w' v))
theorem Yr {E : Nat → Addr} {w w4 : World} {T : Nat → Prop} {b : Nat} {v : Value} {fn : Func} {t u : Tmp} (h : fn.results = #[.cell t 117, .tmp u]) {a : Act} (ht : a.tmps.getD t undef = .pointer (some ⟨b, 0, none⟩)) (hu : a.tmps.getD u undef = v) (hd : a.defers = []) {res : Option Ref.Man} (hres : res = none)
   {y0 y1 y2 y3 y4 : Value} (hRB : w4.heap[b]? = some (.cells #[y0, y1, y2, y3, y4] 117 (0, 0))) (hbw : w.heap.size ≤ b) (hv : dh E w4 v) (hk : ja w w4 T) :
   bodyPost Tryz.prog fn (Tc E w T res) Exit.ret a (Wh w4 b (jf 0) (jf 0) (jf 0) (jf 0) (.slice none 0 0)) := by
 have hb := wm hRB (jf 0) (jf 0) (jf 0) (jf 0) (.slice none 0 0)
 refine bodyPost_ret (Ad (n := 0) (l := 0) (g := 0) (s := 0) (p := none) (k := 0) (c := 0) h ht hb) hd ?_
 rw [hu]
 obtain ⟨k, h1, h2⟩ := hv
 refine ⟨hk.trans (Zu _ _ _ _ _ _ _) (fun i hi e => by have e' : i = b := e; omega), .inr ⟨v, hres, rfl, ⟨k, h1, h2.keep (Zu _ _ _ _ _ _ _) (fun i c' hi e => ?_)⟩⟩⟩
 have e' : i = b := hi
 subst e'
 rw [hRB] at e
 cases e
structure Cs (w wr : World) (xs : List Nat) (rv : Value) : Prop where
 rb : wr.heap[w.heap.size]? = some (.cells #[jf 0, jf 0, jf 0, jf 0, .slice none 0 0] 117 (0, 0))
 mb : wr.heap[w.heap.size + 1]? = some (.cells (Y9 xs rv) 117 (0, 0))
 pb : wr.heap[w.heap.size + 1 + 1]? = some (.cells #[.pointer (some ⟨w.heap.size + 1, 0, none⟩), .pointer (some ⟨w.heap.size + 1, 1, none⟩), .pointer (some ⟨w.heap.size + 1, 2, none⟩), .pointer (some ⟨w.heap.size + 1, 3, none⟩)] 313 (0, 0))
theorem Cs.keep {w wr w' : World} {xs : List Nat} {rv : Value} {T : Nat → Prop} (h : Cs w wr xs rv) (hk : ja wr w' T) (hT : ∀ i, w.heap.size ≤ i → i ≤ w.heap.size + 1 + 1 → ¬ T i) : Cs w w' xs rv :=
 ⟨hk.same h.rb (hT _ (by omega) (by omega)), hk.same h.mb (hT _ (by omega) (by omega)), hk.same h.pb (hT _ (by omega) (by omega))⟩
theorem Cs.ptr {w wr : World} {xs : List Nat} {rv : Value} (h : Cs w wr xs rv) {k : Nat} (hk : k < 4) : wr.cell? ⟨w.heap.size + 1 + 1, k, none⟩ = some (.pointer (some ⟨w.heap.size + 1, k, none⟩)) := by
 rw [cell_of_heap h.pb]
 match k, hk with
 | 0, _ => rfl
 | 1, _ => rfl
 | 2, _ => rfl
 | 3, _ => rfl
theorem Cs.set {w wr : World} {xs : List Nat} {rv : Value} (h : Cs w wr xs rv) {k : Nat} (hx : xs.length = k) (hk : k < 4) (v : Nat) : Cs w (wr.setCell ⟨w.heap.size + 1, k, none⟩ (jf v)) (xs ++ [v]) rv := by
 have ks := ja.setCell wr ⟨w.heap.size + 1, k, none⟩ (jf v)
 refine ⟨ks.same h.rb (show ¬ w.heap.size = w.heap.size + 1 by omega), ?_, ks.same h.pb (show ¬ w.heap.size + 1 + 1 = w.heap.size + 1 by omega)⟩
 rw [jb h.mb, Rn v rv hx hk]
theorem jg0 {w : World} {b : Nat} {x0 x1 x2 x3 : Nat} {rv : Value} {t : TypeId} {fz : Nat × Nat} (hv : ∀ x, rv ≠ qg x) (h : w.heap[b]? = some (.cells #[jf x0, jf x1, jf x2, jf x3, rv] t fz)) : ∀ j x, w.cell? ⟨b, j, none⟩ ≠ some (qg x) := by
 intro j x
 rw [cell_of_heap h]
 match j with
 | 0 => simp
 | 1 => simp
 | 2 => simp
 | 3 => simp
 | 4 => simpa using hv x
 | j + 5 => rw [Array.getElem?_eq_none (by simp)]; simp
theorem Rd.above {w w' : World} {r : Nat} {q : List UInt8} {T : Nat → Prop} (h : Rd w r q) (hk : ja w w' T) (hT : ∀ i, T i → r < i) : Rd w' r q := by
 obtain ⟨u, h1, h2, h3⟩ := h
 refine ⟨u, hk.same h1 (fun e => by have := hT _ e; omega), ?_, h3⟩
 rcases Classical.em (q = []) with rfl | hq
 · obtain ⟨p, c, rfl, a1, a2, a3, a4⟩ := h2
   exact ⟨p, c, rfl, a1, a2, a3, fun ad e => ⟨(a4 ad e).1, fun j u hu => by cases hu⟩⟩
 · exact h2.keep hk (fun p n c e ht => by have h4 := (h3 hq p n c e).1; have h5 := hT _ ht; omega)
set_option maxHeartbeats 1000000 in
set_option maxRecDepth 100000 in
theorem Kk {E : Nat → Addr} {B : Nat} {w : World} {r : Nat} {l : List UInt8} (S : Q0 E B w) (hB : B ≤ r) (hr : Rd w r l) :
   Calls Tryz.prog 216 #[.pointer (some ⟨r, 0, none⟩)] w (Tc E w (fun i => i = r) (Ref.Ql l)) := by
 have hrl : r < w.heap.size := by obtain ⟨v, h1, _⟩ := hr; exact lt_of_heap h1
 obtain ⟨j0, hj, hy0, hy1, hy2⟩ := info_parts Tryz.Ic
 have hR : Ref.Ql l = match Ref.qx 4 l with
   | some ([a, b, c, d], q) =>
     if 2 ≤ q.length then
       match Ref.qx (Ref.number (q.take 2)) (q.drop 2) with
       | some (rs, []) => some ⟨a, b, c, d, rs⟩
       | _ => none
     else none
   | _ => none := rfl
 have HR := hide hR
 clear hR
 generalize Ref.Ql l = RES at HR ⊢
 have hb0 : Cs w (((w.alloc (.cells #[jf 0, jf 0, jf 0, jf 0, .slice none 0 0] 117)).alloc (.cells #[jf 0, jf 0, jf 0, jf 0, .slice none 0 0] 117)).alloc (.cells #[.pointer (some ⟨w.heap.size + 1, 0, none⟩), .pointer (some ⟨w.heap.size + 1, 1, none⟩), .pointer (some ⟨w.heap.size + 1, 2, none⟩), .pointer (some ⟨w.heap.size + 1, 3, none⟩)] 313)) [] (.slice none 0 0) := by
   have t1 := jd w (.cells #[jf 0, jf 0, jf 0, jf 0, .slice none 0 0] 117)
   have t2 := jd (w.alloc (.cells #[jf 0, jf 0, jf 0, jf 0, .slice none 0 0] 117)) (.cells #[jf 0, jf 0, jf 0, jf 0, .slice none 0 0] 117)
   have t3 := jd ((w.alloc (.cells #[jf 0, jf 0, jf 0, jf 0, .slice none 0 0] 117)).alloc (.cells #[jf 0, jf 0, jf 0, jf 0, .slice none 0 0] 117)) (.cells #[.pointer (some ⟨w.heap.size + 1, 0, none⟩), .pointer (some ⟨w.heap.size + 1, 1, none⟩), .pointer (some ⟨w.heap.size + 1, 2, none⟩), .pointer (some ⟨w.heap.size + 1, 3, none⟩)] 313)
   have e1 : (w.alloc (.cells #[jf 0, jf 0, jf 0, jf 0, .slice none 0 0] 117)).heap.size = w.heap.size + 1 := by simp
   have e2 : ((w.alloc (.cells #[jf 0, jf 0, jf 0, jf 0, .slice none 0 0] 117)).alloc (.cells #[jf 0, jf 0, jf 0, jf 0, .slice none 0 0] 117)).heap.size = w.heap.size + 1 + 1 := by simp
   rw [e1] at t2
   rw [e2] at t3
   exact ⟨(ja.alloc _ _ (fun _ => False)).same ((ja.alloc _ _ (fun _ => False)).same t1 id) id, (ja.alloc _ _ (fun _ => False)).same t2 id, t3⟩
 have k0 : ja w (((w.alloc (.cells #[jf 0, jf 0, jf 0, jf 0, .slice none 0 0] 117)).alloc (.cells #[jf 0, jf 0, jf 0, jf 0, .slice none 0 0] 117)).alloc (.cells #[.pointer (some ⟨w.heap.size + 1, 0, none⟩), .pointer (some ⟨w.heap.size + 1, 1, none⟩), .pointer (some ⟨w.heap.size + 1, 2, none⟩), .pointer (some ⟨w.heap.size + 1, 3, none⟩)] 313)) (fun _ => False) := (((ja.refl w _).more _).more _).more _
 go_enter Tryz.func216, Tryz.ntmps216
 go_wp2_with fail
 go_loopw [20] (fun i wr => ∃ (k : Nat) (xs : List Nat) (q : List UInt8), k ≤ 4 ∧ xs.length = k ∧ i = .int .i64 k ∧ Cs w wr xs (.slice none 0 0) ∧ Rd wr r q ∧ ja w wr (fun i => i = r) ∧ Ref.qx 4 l = um xs (Ref.qx (4 - k) q))
   (fun i _ => 4 - (intOf i).toNat)
 case atStart => exact ⟨0, [], l, Nat.zero_le _, rfl, rfl, hb0, hr.same k0, Qb k0, by cases Ref.qx 4 l <;> simp [um]⟩
 case round =>
   obtain ⟨k, xs, q, hk, hlen, rfl, hbx, hrq, hkw, hrest⟩ := hrel
   have HREST := hide hrest
   clear hrest
   have Sr := S.keep hkw (fun i e => by rw [e]; exact hB)
   rcases Nat.lt_or_ge k 4 with hlt | hge
   · have hp := hbx.ptr hlt
     go_wp2_with fail
     refine (Ag Sr hB hrq).mono ?_
     rintro e w2 ⟨k2, ⟨x, q', hres, rfl, hr2⟩ | ⟨v, hres, rfl, he⟩⟩
     · have hb2 := hbx.keep k2 (fun i h1 h2 e => by omega)
       obtain ⟨n0, hn0⟩ := Ur (xs := xs) (.slice none 0 0) hlt
       have c0 := (cell_of_heap (o := k) hb2.mb).trans hn0
       have f0 := frozen_of_heap (o := k) hb2.mb
       have hbs := hb2.set hlen hlt x
       have ks := ja.setCell w2 ⟨w.heap.size + 1, k, none⟩ (jf x)
       have hno : ∀ j y, w2.cell? ⟨w.heap.size + 1, j, none⟩ ≠ some (qg y) := jg0 (fun y => by simp) hb2.mb
       have hr2' := hr2.other ks (show r ≠ w.heap.size + 1 by omega) hno
       have kk : ja w (w2.setCell ⟨w.heap.size + 1, k, none⟩ (jf x)) (fun i => i = r) := (Xb hkw k2).trans ks (fun i hi e => by have e' : i = w.heap.size + 1 := e; omega)
       have hst : Ref.qx 4 l = um (xs ++ [x]) (Ref.qx (4 - (k + 1)) q') := by
         rw [HREST.out, show 4 - k = (4 - (k + 1)) + 1 by omega]
         exact Kh hres
       have HS := hide hst
       clear hst HREST hno hn0
       go_wp2
       exact ⟨⟨k + 1, xs ++ [x], q', by omega, by simp [hlen], by simp, hbs, hr2', kk, HS.out⟩, by simp [intOf]; omega⟩
     · have hnone : Ref.qx 4 l = none := by
         rw [HREST.out, show 4 - k = (4 - k - 1) + 1 by omega]
         exact Ki hres
       have HN : Hid (RES = none) := by unfold Hid; rw [HR.out, hnone]
       clear HR HREST hnone
       have hb2 := hbx.keep k2 (fun i h1 h2 e => by omega)
       obtain ⟨⟨q0, q1, q2, q3, q4⟩, qf⟩ := J9 hb2.rb
       have f0 := qf 0
       have f1 := qf 1
       have f2 := qf 2
       have f3 := qf 3
       have f4 := qf 4
       obtain ⟨t, a, rfl⟩ := he.shape
       go_wp2
       exact Yr (v := .iface t (.pointer (some a))) rfl rfl rfl rfl HN.out hb2.rb (Nat.le_refl _) he (Xb hkw k2)
   · have ek : k = 4 := by omega
     subst ek
     have h4 : Ref.qx 4 l = some (xs, q) := by
       rw [HREST.out, Nat.sub_self, Ref.qx]
       simp [um]
     clear HREST
     match xs, hlen with
     | [a, b, c, d], _ =>
       have HR2 : Hid (RES = if 2 ≤ q.length then (match Ref.qx (Ref.number (q.take 2)) (q.drop 2) with | some (rs, []) => some ⟨a, b, c, d, rs⟩ | _ => none) else none) := by
         unfold Hid
         rw [HR.out, h4]
       clear HR h4
       have hRB := hbx.rb
       have hMB : wr.heap[w.heap.size + 1]? = some (.cells #[jf a, jf b, jf c, jf d, .slice none 0 0] 117 (0, 0)) := hbx.mb
       have hszr : w.heap.size + 1 + 1 < wr.heap.size := lt_of_heap hbx.pb
       clear hbx hb0 k0
       have HRB := hide hRB
       have HMB := hide hMB
       clear hRB hMB
       rcases Nat.lt_or_ge q.length 2 with hq2 | hq2
       · have HN : Hid (RES = none) := by unfold Hid; rw [HR2.out, if_neg (by omega)]
         clear HR2
         go_wp2_with fail
         refine (Qi (n := 2) Sr hrq hq2 (by omega)).mono ?_
         rintro e w1 ⟨v, rfl, he, hr1, k1⟩
         obtain ⟨t, ad, rfl⟩ := he.shape
         go_wp2_with fail
         refine (Ja _ he).mono ?_
         rintro e w2 ⟨v2, rfl, he2, k2⟩
         have hRB2 := k2.same (k1.same HRB.out id) id
         obtain ⟨⟨q0, q1, q2', q3, q4⟩, qf⟩ := J9 hRB2
         have f0 := qf 0
         have f1 := qf 1
         have f2 := qf 2
         have f3 := qf 3
         have f4 := qf 4
         have H2 := hide hRB2
         clear hRB2
         go_wp2
         exact Yr (v := v2) rfl rfl rfl rfl HN.out H2.out (Nat.le_refl _) (.of he2 (by decide)) (hkw.trans (k1.trans k2 (fun _ _ h => h)) (fun _ _ h => h.elim))
       · have HR3 : Hid (RES = (match Ref.qx (Ref.number (q.take 2)) (q.drop 2) with | some (rs, []) => some ⟨a, b, c, d, rs⟩ | _ => none)) := by unfold Hid; rw [HR2.out, if_pos hq2]
         clear HR2
         have hNl := Ref.Yq (q.take 2)
         rw [show (q.take 2).length = 2 by simp; omega] at hNl
         go_wp2_with fail
         refine (y8 (n := 2) hrq hq2 (by omega)).mono ?_
         rintro e w1 ⟨rfl, hr1, k1⟩
         have hRB1 := k1.same HRB.out (show ¬ w.heap.size = r by omega)
         have hMB1 := k1.same HMB.out (show ¬ w.heap.size + 1 = r by omega)
         have K1 := Xb hkw k1
         have hsz1 : w.heap.size + 1 + 1 < w1.heap.size := Nat.lt_of_lt_of_le hszr k1.size
         generalize Ref.number (q.take 2) = N at HR3 hNl ⊢
         generalize q.drop 2 = m at HR3 hr1
         clear HRB HMB hrq hkw Sr
         have HRB := hide hRB1
         have HMB := hide hMB1
         clear hRB1 hMB1
         go_wp2_with fail
         go_loopw [48] (fun i wr => ∃ (k : Nat) (rs : List Nat) (q : List UInt8) (p : Option Addr) (cp : Nat), k ≤ N ∧ rs.length = k ∧ i = .int .u64 k ∧
             wr.heap[w.heap.size]? = some (.cells #[jf 0, jf 0, jf 0, jf 0, .slice none 0 0] 117 (0, 0)) ∧
             wr.heap[w.heap.size + 1]? = some (.cells #[jf a, jf b, jf c, jf d, .slice p k cp] 117 (0, 0)) ∧
             wr.ownsRow (w.heap.size + 1 + 1 + 1) 3 1 (.slice p k cp) k (rs.map jf) ∧ Rd wr r q ∧ ja w wr (fun i => i = r) ∧ w.heap.size + 1 + 1 < wr.heap.size ∧ Ref.qx N m = um rs (Ref.qx (N - k) q))
           (fun i _ => N - (intOf i).toNat)
         case atStart => exact ⟨0, [], m, none, 0, Nat.zero_le _, rfl, rfl, HRB.out, HMB.out, World.ownsRow_nil _ _ _ _, hr1, K1, hsz1, by cases Ref.qx N m <;> simp [um]⟩
         case round =>
           obtain ⟨k, rs, q, p, cp, hk, hlen, rfl, hRB, hMB, hown, hrq, hkw, hsz, hrest⟩ := hrel
           have HREST := hide hrest
           have HRB := hide hRB
           have HMB := hide hMB
           clear hrest hRB hMB
           have Sr := S.keep hkw (fun i e => by rw [e]; exact hB)
           rcases Nat.lt_or_ge k N with hlt | hge
           · go_wp2_with fail
             refine (Ag Sr hB hrq).mono ?_
             rintro e w2 ⟨k2, ⟨x, q', hres, rfl, hr2⟩ | ⟨v, hres, rfl, he⟩⟩
             · have hRB2 := k2.same HRB.out (show ¬ w.heap.size = r by omega)
               have hMB2 := k2.same HMB.out (show ¬ w.heap.size + 1 = r by omega)
               have hown2 := k2.row hown (fun g hg e => by have := (hown.lt g hg).1; omega)
               obtain ⟨⟨a0, a1, a2, a3, a4⟩, af⟩ := J9 hMB2
               have f4 := af 4
               have hst : Ref.qx N m = um (rs ++ [x]) (Ref.qx (N - (k + 1)) q') := by
                 rw [HREST.out, show N - k = (N - (k + 1)) + 1 by omega]
                 exact Kh hres
               have HS := hide hst
               clear hst HREST
               have hownA := hown2.alloc (.cells #[jf x] 3)
               have h63 : Hid (k + 1 ≤ maxLen) := by unfold Hid maxLen; omega
               have hbs : Hid ((k + 1) * 8 ≤ 140737488355328) := by unfold Hid; omega
               have hbb : w.heap.size + 1 + 1 + 1 ≤ (w2.alloc (.cells #[jf x] 3)).heap.size := by have := k2.size; simp; omega
               have hlt2 := hown2.lt
               have HRB2 := hide hRB2
               have HMB2 := hide hMB2
               clear hRB2 hMB2
               go_wp2_with (first
                 | (at_builtin; go_must (refine jm _ rfl (.tmp 61) (.tmp 63) 39 rfl (w.heap.size + 1 + 1 + 1) 3 j0 (.int .i64 0) 1 8 Tryz.underlying39 hj hy0 hy1 hy2 rfl Nat.zero_lt_one _ _ _ rfl hownA ⟨w2.heap.size, 0, none⟩ 1 1 [jf x] rfl rfl (cell_one_new _ _ _) (Rf x) h63.out hbs.out hbb ?_)
                    intro p3 cp3 w3 hown3 hg3 hloc3
                    have kg : ja w2 w3 (fun i => some i = (Value.slice p k cp).ownBlock) := ((ja.refl w2 _).more _).grow hg3 (fun j e _ => e.symm)
                    have hMB3 := kg.same HMB2.out (fun e => by have := (hlt2 _ e.symm).1; omega)
                    have hRB3 := kg.same HRB2.out (fun e => by have := (hlt2 _ e.symm).1; omega)
                    obtain ⟨⟨b0, b1, b2, b3, b4⟩, bf⟩ := J9 hMB3
                    have g4 := bf 4
                    have HMB3 := hide hMB3
                    have HRB3 := hide hRB3
                    clear hMB3 hRB3)
                 | go_in)
               have ks := ja.setCell w3 ⟨w.heap.size + 1, 4, none⟩ (.slice p3 (k + 1) cp3)
               have KT : ja w2 (w3.setCell ⟨w.heap.size + 1, 4, none⟩ (.slice p3 (k + 1) cp3)) (fun i => r < i) := (kg.mono (fun i _ e => by have := (hlt2 i e.symm).1; omega)).trans ks (fun i _ e => by have e' : i = w.heap.size + 1 := e; omega)
               have hrN := hr2.above KT (fun _ h => h)
               have hmN : (w3.setCell ⟨w.heap.size + 1, 4, none⟩ (.slice p3 (k + 1) cp3)).heap[w.heap.size + 1]? = some (.cells #[jf a, jf b, jf c, jf d, .slice p3 (k + 1) cp3] 117 (0, 0)) := by
                 rw [jb HMB3.out]
                 simp
               have hrbN := ks.same HRB3.out (show ¬ w.heap.size = w.heap.size + 1 by omega)
               have hownN := ks.row hown3 (fun g hg e => by have h1 := (hown3.lt g hg).1; have e' : g = w.heap.size + 1 := e; omega)
               have kwN : ja w (w3.setCell ⟨w.heap.size + 1, 4, none⟩ (.slice p3 (k + 1) cp3)) (fun i => i = r) := ((Xb hkw k2).trans kg (fun i hi e => by have := (hlt2 i e.symm).1; omega)).trans ks (fun i hi e => by have e' : i = w.heap.size + 1 := e; omega)
               have hszN : w.heap.size + 1 + 1 < (w3.setCell ⟨w.heap.size + 1, 4, none⟩ (.slice p3 (k + 1) cp3)).heap.size := by have h1 := k2.size; have h2 := KT.size; omega
               have hownN' : (w3.setCell ⟨w.heap.size + 1, 4, none⟩ (.slice p3 (k + 1) cp3)).ownsRow (w.heap.size + 1 + 1 + 1) 3 1 (.slice p3 (k + 1) cp3) (k + 1) ((rs ++ [x]).map jf) := by simpa using hownN
               refine ⟨?_, by simp [intOf]; omega⟩
               first
                 | exact ⟨k + 1, rs ++ [x], q', p3, cp3, by omega, by simp [hlen], by simp, hrbN, hmN, hownN', hrN, kwN, hszN, HS.out⟩
                 | ((repeat apply Exists.intro)
                    refine ⟨?_, rfl⟩
                    exact ⟨k + 1, rs ++ [x], q', p3, cp3, by omega, by simp [hlen], by simp, hrbN, hmN, hownN', hrN, kwN, hszN, HS.out⟩)
             · have hnone : Ref.qx N m = none := by
                 rw [HREST.out, show N - k = (N - k - 1) + 1 by omega]
                 exact Ki hres
               have HN : Hid (RES = none) := by unfold Hid; rw [HR3.out, hnone]
               clear HR3 HREST hnone
               obtain ⟨t, ad, rfl⟩ := he.shape
               go_wp2_with fail
               refine (ug _ he).mono ?_
               rintro e w3 ⟨v3, rfl, he3, k3⟩
               have hRB3 := k3.same (k2.same HRB.out (show ¬ w.heap.size = r by omega)) id
               obtain ⟨⟨q0, q1, q2', q3, q4⟩, qf⟩ := J9 hRB3
               have f0 := qf 0
               have f1 := qf 1
               have f2 := qf 2
               have f3 := qf 3
               have f4 := qf 4
               have H3 := hide hRB3
               clear hRB3
               go_wp2
               exact Yr (v := v3) rfl rfl rfl rfl HN.out H3.out (Nat.le_refl _) he3 ((Xb hkw k2).trans k3 (fun _ _ h => h.elim))
           · have ek : k = N := by omega
             subst ek
             have hz : Ref.qx k m = some (rs, q) := by
               rw [HREST.out, Nat.sub_self, Ref.qx]
               simp [um]
             clear HREST
             cases q with
             | nil =>
               have HN : Hid (RES = some ⟨a, b, c, d, rs⟩) := by unfold Hid; rw [HR3.out, hz]
               clear HR3 hz
               obtain ⟨⟨a0, a1, a2, a3, a4⟩, _⟩ := J9 HMB.out
               obtain ⟨⟨q0, q1, q2', q3, q4⟩, qf⟩ := J9 HRB.out
               have f0 := qf 0
               have f1 := qf 1
               have f2 := qf 2
               have f3 := qf 3
               have f4 := qf 4
               go_wp2_with fail
               refine (jao hrq).mono ?_
               rintro e w' ⟨rfl, rfl⟩
               go_wp2
               have hb := wm HRB.out (jf a) (jf b) (jf c) (jf d) (.slice p k cp)
               refine bodyPost_ret (Ad (n := a) (l := b) (g := c) (s := d) (p := p) (k := k) (c := cp) rfl rfl hb) rfl ?_
               have ks := Zu w' w.heap.size (jf a) (jf b) (jf c) (jf d) (.slice p k cp)
               refine ⟨hkw.trans ks (fun i hi e => by have e' : i = w.heap.size := e; omega), .inl ⟨⟨a, b, c, d, rs⟩, p, cp, HN.out, by simp only [hlen]; rfl, ?_⟩⟩
               simp only [hlen]
               exact xx (ks.row hown (fun g hg e => by have h1 := (hown.lt g hg).1; have e' : g = w.heap.size := e; omega)) (by omega)
             | cons y q =>
               have HN : Hid (RES = none) := by unfold Hid; rw [HR3.out, hz]
               clear HR3 hz
               go_wp2_with fail
               refine (Vn Sr hrq (by simp)).mono ?_
               rintro e w' ⟨v, rfl, he, rfl⟩
               obtain ⟨t, ad, rfl⟩ := he.shape
               obtain ⟨⟨q0, q1, q2', q3, q4⟩, qf⟩ := J9 HRB.out
               have f0 := qf 0
               have f1 := qf 1
               have f2 := qf 2
               have f3 := qf 3
               have f4 := qf 4
               go_wp2
               exact Yr (v := .iface t (.pointer (some ad))) rfl rfl rfl rfl HN.out HRB.out (Nat.le_refl _) (.of he (by decide)) hkw
end Go.Proofs.YtnipbplghijdmaaGreatDoor
