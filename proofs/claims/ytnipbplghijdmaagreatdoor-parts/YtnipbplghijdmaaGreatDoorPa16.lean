/-
  Pa: Names Names2 ManFrame ManRead2 ManRead3.
-/
import Derived.Lib.LaidTab
import Derived.Test.YtnipbplghijdmaaGreatDoorPa08
import Derived.Test.YtnipbplghijdmaaGreatDoorPa14
import Derived.Test.YtnipbplghijdmaaGreatDoorPa02
namespace Go.Proofs.YtnipbplghijdmaaGreatDoor
open Go.RowKit Go.Maps Go.WideShapes
set_option linter.unusedVariables false
structure Env (E : Nat → Addr) (B : Nat) (w : World) : Prop where
 sent : Sent E B w
 tab : ∃ t fz, w.heap[5]? = some (.cells (Lib.pow10Tab.map fun z => Value.int .u64 z).toArray t fz)
 tabLt : 5 < B
theorem Env.keep {E : Nat → Addr} {B : Nat} {w w' : World} {T : Nat → Prop} (h : Env E B w) (hk : Keeps w w' T) (hT : ∀ i, T i → B ≤ i) : Env E B w' := by
 refine ⟨h.sent.keep hk hT, ?_, h.tabLt⟩
 obtain ⟨t, fz, ht⟩ := h.tab
 exact ⟨t, fz, hk.same ht (fun hh => by have h1 := hT _ hh; have h2 := h.tabLt; omega)⟩
theorem Env.same {E : Nat → Addr} {B : Nat} {w w' : World} (h : Env E B w) (hk : Keeps w w' (fun _ => False)) : Env E B w' := h.keep hk (fun _ h => h.elim)
theorem Env.tabIs {E : Nat → Addr} {B : Nat} {w : World} (h : Env E B w) : Lib.TabIs Tryz.prog w "internal/strconv.uint64pow10" .u64 Lib.pow10Tab := by
 obtain ⟨t, fz, ht⟩ := h.tab
 have hg : Tryz.prog.globalNamed "internal/strconv.uint64pow10" = some 5 := by kernel_rfl
 unfold Lib.TabIs World.var?
 rw [hg]
 simp [ht]
theorem Keeps.grew (w : World) (k : Nat) (os : Array Obj) (T : Nat → Prop) : Keeps w (Sort.grow (w.drewN k) os) T :=
 ⟨rfl, rfl, rfl, by simp [Sort.grow, World.drewN], fun i hi _ => by simp only [Sort.grow, World.drewN]; rw [Array.getElem?_append_left hi]⟩
theorem Ref.decimal_eq (n : Nat) : Ref.decimal n = Lib.decDigits n := by
 induction n using Nat.strongRecOn with
 | ind n ih =>
   rw [Ref.decimal, Lib.decDigits]
   split
   · rfl
   · rw [ih _ (by omega)]
theorem itoa_any {E : Nat → Addr} {B : Nat} {w : World} (n : Nat) (hn : n ≤ 9223372036854775807) (H : Env E B w) :
   Calls Tryz.prog 104 #[.int .i64 n] w fun e w' => e = .returned (strV (Ref.decimal n)) ∧ Keeps w w' (fun _ => False) := by
 refine (Tryz.strconv_Itoa (n : Int) (by omega) (by omega) w H.tabIs).mono ?_
 rintro e w' ⟨rfl, k, os, rfl⟩
 exact ⟨by rw [Lib.itoa_nonneg, Ref.decimal_eq], Keeps.grew w k os _⟩
theorem decimal_len : ∀ (k n : Nat), n < 10 ^ (k + 1) → (Ref.decimal n).length ≤ k + 1 := by
 intro k
 induction k with
 | zero => intro n h; rw [Ref.decimal, dif_pos (by omega)]; simp
 | succ k ih =>
   intro n h
   rw [Ref.decimal]
   split
   · simp
   · have := ih (n / 10) (by rw [Nat.div_lt_iff_lt_mul (by omega)]; rw [Nat.pow_succ] at h; exact h)
     simp
     omega
theorem decimal_short {n : Nat} (h : n ≤ 9223372036854775807) : (Ref.decimal n).length ≤ 19 := decimal_len 18 n (by omega)
theorem ba_append (a b : List UInt8) : (⟨a.toArray⟩ : ByteArray) ++ ⟨b.toArray⟩ = ⟨(a ++ b).toArray⟩ := by
 apply ByteArray.ext
 simp [ByteArray.data_append]
def logName (n : Nat) : Str := [108, 111, 103, 45] ++ Ref.decimal n
def runName (n : Nat) : Str := [114, 117, 110, 45] ++ Ref.decimal n
set_option maxRecDepth 100000 in
theorem logName_any {E : Nat → Addr} {B : Nat} {w : World} (n : Nat) (hn : n ≤ 9223372036854775807) (H : Env E B w) :
   Calls Tryz.prog 63 #[.int .i64 n] w fun e w' => e = .returned (strV (logName n)) ∧ Keeps w w' (fun _ => False) := by
 have hd := decimal_short hn
 go_enter Tryz.func63, Tryz.ntmps63
 go_wp2_with (go_at_call 104; refine (itoa_any n hn H).mono ?_; rintro e w' ⟨rfl, k1⟩)
 go_ret
 exact ⟨congrArg (fun x => Ending.returned (.string x)) (ba_append [108, 111, 103, 45] (Ref.decimal n)), k1⟩
set_option maxRecDepth 100000 in
theorem runName_any {E : Nat → Addr} {B : Nat} {w : World} (n : Nat) (hn : n ≤ 9223372036854775807) (H : Env E B w) :
   Calls Tryz.prog 115 #[.int .i64 n] w fun e w' => e = .returned (strV (runName n)) ∧ Keeps w w' (fun _ => False) := by
 have hd := decimal_short hn
 go_enter Tryz.func115, Tryz.ntmps115
 go_wp2_with (go_at_call 104; refine (itoa_any n hn H).mono ?_; rintro e w' ⟨rfl, k1⟩)
 go_ret
 exact ⟨congrArg (fun x => Ending.returned (.string x)) (ba_append [114, 117, 110, 45] (Ref.decimal n)), k1⟩
abbrev natV (n : Nat) : Value := .int .i64 n
def Nums (w : World) (v : Value) (l : List Nat) : Prop :=
 ∃ p c, v = .slice p l.length c ∧ l.length ≤ c ∧ c ≤ maxLen ∧ (p = none → c = 0) ∧ ∀ ad, p = some ad → ad.spot = none ∧ ∀ j u, l[j]? = some u → w.cell? (ad.add j) = some (natV u)
theorem Nums.keep {w w' : World} {v : Value} {l : List Nat} {T : Nat → Prop} (h : Nums w v l) (hk : Keeps w w' T) (hT : l ≠ [] → ∀ p n c, v = .slice (some p) n c → ¬ T p.block) : Nums w' v l := by
 obtain ⟨p, c, rfl, h1, h2, h3, h4⟩ := h
 exact ⟨p, c, rfl, h1, h2, h3, fun ad e => ⟨(h4 ad e).1, fun j u hu => hk.cell ((h4 ad e).2 j u hu) (by rw [add_block]; exact hT (fun e => by rw [e] at hu; cases hu) ad _ _ (by rw [e]))⟩⟩
theorem Nums.same {w w' : World} {v : Value} {l : List Nat} (h : Nums w v l) (hk : Keeps w w' (fun _ => False)) : Nums w' v l := h.keep hk (fun _ _ _ _ _ h => h)
theorem Nums.nil (w : World) : Nums w (.slice none 0 0) [] := ⟨none, 0, rfl, Nat.le_refl _, Nat.zero_le _, fun _ => rfl, fun _ h => by cases h⟩
theorem nums_of_row {w : World} {base n : Nat} {v : Value} {l : List Nat} (h : w.ownsRow base 3 1 v n (l.map natV)) (hn : l.length = n) : Nums w v l := by
 subst hn
 rcases h.2 with ⟨e, h0⟩ | ⟨g, cap, cur, e, _, hgg, h1, h2, _⟩
 · have : l = [] := List.eq_nil_of_length_eq_zero h0
   subst this
   rw [e]
   exact Nums.nil w
 · refine ⟨some ⟨g, 0, none⟩, cap, e, h1, h2, (fun h => by cases h), fun ad had => ?_⟩
   cases had
   exact ⟨rfl, fun j u hu => h.cells (by rw [e]; rfl) j _ (by rw [List.getElem?_map, hu]; rfl)⟩
theorem Nums.at {w : World} {p : Option Addr} {c : Nat} {l : List Nat} (h : Nums w (.slice p l.length c) l) {k : Nat} (hk : k < l.length) : ∃ b o, p = some ⟨b, o, none⟩ ∧ w.cell? ⟨b, o + k, none⟩ = some (natV l[k]) := by
 obtain ⟨p', c', e, h1, h2, h3, h4⟩ := h
 cases e
 cases p with
 | none => have := h3 rfl; omega
 | some ad =>
   obtain ⟨b, o, s⟩ := ad
   obtain ⟨hs, hc⟩ := h4 _ rfl
   simp only at hs
   subst hs
   refine ⟨b, o, rfl, ?_⟩
   have := hc k l[k] (by simp [hk])
   rwa [add_at] at this
theorem keeps_below {w w' : World} {B : Nat} (h : Below B w w') (hB : w.heap.size ≤ B) : Keeps w w' (fun _ => False) := ⟨h.os, h.tape, h.output, h.size, fun k hk _ => h.block k (Nat.lt_of_lt_of_le hk hB)⟩
theorem cloneInts_any (w : World) (v : Value) (l : List Nat) (hv : Nums w v l) (hl : l.length < 1099511627776) :
   Calls Tryz.prog 74 #[v] w fun e w' => ∃ p c, e = .returned (.slice p l.length c) ∧ w'.ownsRow w.heap.size 3 1 (.slice p l.length c) l.length (l.map natV) ∧ Keeps w w' (fun _ => False) := by
 obtain ⟨p, c, rfl, h1, h2, h3, h4⟩ := hv
 cases p with
 | none =>
   have : c = 0 := h3 rfl
   have hl : l = [] := List.eq_nil_of_length_eq_zero (by omega)
   subst hl
   refine (Tryz.slices_Clone_int_nil _ c w).mono ?_
   rintro e w' ⟨rfl, rfl⟩
   exact ⟨none, 0, rfl, World.ownsRow_nil _ _ _ _, Keeps.refl _ _⟩
 | some ad =>
   obtain ⟨b, o, s⟩ := ad
   obtain ⟨hs, hc⟩ := h4 _ rfl
   simp only at hs
   subst hs
   refine (Tryz.slices_Clone_int b o l.length c (l.map Int.ofNat) w (by simp) (by omega) (fun j hj => ?_)).mono ?_
   · have hj' : j < l.length := by simpa using hj
     have := hc j l[j] (by simp [hj'])
     rw [add_at] at this
     rw [this]
     simp [hj']
   · rintro e w' ⟨v', rfl, hown, _, hb⟩
     obtain ⟨p', c', rfl⟩ := slice_of_row hown
     refine ⟨p', c', rfl, ?_, keeps_below hb (Nat.le_refl _)⟩
     have e1 : ((l.map Int.ofNat).take l.length).map (Value.int .i64) = l.map natV := by
       rw [List.take_of_length_le (by simp)]
       simp
     rw [e1] at hown
     exact hown
abbrev manV (m : Ref.Man) (rv : Value) : Value := .agg #[natV m.next, natV m.last, natV m.log, natV m.base, rv]
theorem Tryz.infoInt : (Tryz.prog.info? 3).map (fun i => (i.zero, i.size, i.bytes)) = some (some (.int .i64 0), 1, 8) := by kernel_rfl
set_option maxHeartbeats 1000000 in
set_option maxRecDepth 100000 in
theorem settled_any (w : World) (m : Ref.Man) (rv : Value) (hv : Nums w rv m.runs) (hl : m.runs.length < 1048576) :
   Calls Tryz.prog 121 #[manV m rv] w fun e w' => ∃ p c, e = .returned (.slice p m.settled.length c) ∧ w'.ownsRow w.heap.size 3 1 (.slice p m.settled.length c) m.settled.length (m.settled.map natV) ∧ Keeps w w' (fun _ => False) := by
 obtain ⟨j0, hj, hy0, hy1, hy2⟩ := info_parts Tryz.infoInt
 obtain ⟨next, last, log, base, runs⟩ := m
 simp only at hv hl
 obtain ⟨pr, cr, rfl, _⟩ := id hv
 have kA := Keeps.alloc w (.cells #[natV next, natV last, natV log, natV base, .slice pr runs.length cr] 117) (fun _ => False)
 have hS : Ref.Man.settled ⟨next, last, log, base, runs⟩ = if base = 0 then runs else runs ++ [base] := rfl
 rw [hS]
 rcases Nat.eq_zero_or_pos base with hb | hb
 · subst hb
   rw [if_pos rfl]
   go_enter Tryz.func121, Tryz.ntmps121
   go_wp2_with fail
   refine (cloneInts_any _ _ runs (hv.same kA) (by omega)).mono ?_
   rintro e w1 ⟨p, c, rfl, hown, k1⟩
   have hc := k1.same (heap_alloc_top w _) id
   have c3 := cell_of_heap (o := 3) hc
   simp at c3
   clear hc
   go_wp2
   go_ret
   exact ⟨p, c, rfl, row_base hown (by simp), kA.trans k1 (fun _ _ h => h)⟩
 · rw [if_neg (by omega)]
   have hb2 : ((base : Int) != 0) = true := by simp; omega
   have hb3 : ((base : Int) == 0) = false := by simp; omega
   go_enter Tryz.func121, Tryz.ntmps121
   go_wp2_with fail
   refine (cloneInts_any _ _ runs (hv.same kA) (by omega)).mono ?_
   rintro e w1 ⟨p, c, rfl, hown, k1⟩
   have hc := k1.same (heap_alloc_top w _) id
   have c3 := cell_of_heap (o := 3) hc
   simp at c3
   clear hc
   have hownA := (row_base hown (base' := w.heap.size) (by simp)).alloc (.cells #[natV base] 3)
   have h1 : ∀ u ∈ [natV base], u.oneCell' = true := by intro u hu; simp at hu; subst hu; rfl
   have h63 : Hid (runs.length + 1 ≤ maxLen) := by unfold Hid maxLen; omega
   have hbs : Hid ((runs.length + 1) * 8 ≤ 140737488355328) := by unfold Hid; omega
   have hbb : w.heap.size ≤ (w1.alloc (.cells #[natV base] 3)).heap.size := by have := k1.size; simp at this; simp; omega
   go_wp2_with (first | (at_builtin; go_must (refine wpList_append_own_sl _ rfl (.tmp 10) (.tmp 13) 39 rfl w.heap.size 3 j0 (.int .i64 0) 1 8 Tryz.underlying39 hj hy0 hy1 hy2 rfl Nat.zero_lt_one _ _ _ rfl hownA ⟨w1.heap.size, 0, none⟩ 1 1 [natV base] rfl rfl (cell_one_new _ _ _) h1 h63.out hbs.out hbb ?_); intro p3 cp3 w3 hown3 hg3 hloc3) | go_in)
   go_ret
   have el : (runs ++ [base]).length = runs.length + 1 := by simp
   rw [el]
   refine ⟨p3, cp3, rfl, by simpa using hown3, ?_⟩
   have hlt := hown.lt
   exact ((kA.trans k1 (fun _ _ h => h)).more _).grow hg3 (fun k e hk => by have := (hlt k e).1; simp at this; omega)
theorem enter_settled (ys : Array Value) (w : World) : (callFunc 121 ys).run Tryz.prog w = .ok (.enter 121 ys) w := by kernel_rfl
theorem settled_length (m : Ref.Man) : m.settled.length ≤ m.runs.length + 1 := by unfold Ref.Man.settled; split <;> simp
theorem one_nat (n : Nat) : ∀ u ∈ [natV n], u.oneCell' = true := by intro u hu; simp at hu; subst hu; rfl
set_option maxHeartbeats 1000000 in
set_option maxRecDepth 100000 in
theorem numbers_any (w : World) (m : Ref.Man) (rv : Value) (hv : Nums w rv m.runs) (hl : m.runs.length < 1048576) :
   Calls Tryz.prog 244 #[manV m rv] w fun e w' => ∃ p c, e = .returned (.slice p m.numbers.length c) ∧ w'.ownsRow w.heap.size 3 1 (.slice p m.numbers.length c) m.numbers.length (m.numbers.map natV) ∧ Keeps w w' (fun _ => False) := by
 obtain ⟨j0, hj, hy0, hy1, hy2⟩ := info_parts Tryz.infoInt
 have hsl := settled_length m
 have hN : m.numbers = m.settled ++ [m.log] := rfl
 have hNl : m.numbers.length = m.settled.length + 1 := by rw [hN]; simp
 rw [hNl]
 have HN := hide hN
 clear hN hNl
 have hset := fun w' (h : Nums w' rv m.runs) => settled_any w' m rv h hl
 obtain ⟨next, last, log, base, runs⟩ := m
 simp only at hv hl hsl hset
 obtain ⟨pr, cr, rfl, _⟩ := id hv
 generalize Ref.Man.settled ⟨next, last, log, base, runs⟩ = S at hsl hset HN ⊢
 generalize Ref.Man.numbers ⟨next, last, log, base, runs⟩ = NN at HN ⊢
 have kA := Keeps.alloc w (.cells #[natV next, natV last, natV log, natV base, .slice pr runs.length cr] 117) (fun _ => False)
 have hT := heap_alloc_top w (.cells #[natV next, natV last, natV log, natV base, .slice pr runs.length cr] 117)
 have hvA : Nums (w.alloc (.cells #[natV next, natV last, natV log, natV base, .slice pr runs.length cr] 117)).drew (.slice pr runs.length cr) runs := hv.same kA.draw
 have hvB : ∀ o, Nums ((w.alloc (.cells #[natV next, natV last, natV log, natV base, .slice pr runs.length cr] 117)).alloc o).drew (.slice pr runs.length cr) runs := fun o => hv.same (kA.more o).draw
 have h63 : Hid (S.length + 1 ≤ maxLen) := by unfold Hid maxLen; omega
 have hbs : Hid ((S.length + 1) * 8 ≤ 140737488355328) := by unfold Hid; omega
 have HT := hide hT
 have HTop : Hid (∀ o, ((w.alloc (.cells #[natV next, natV last, natV log, natV base, .slice pr runs.length cr] 117)).alloc o).heap[w.heap.size + 1]? = some o) := by
   intro o
   have := heap_alloc_top (w.alloc (.cells #[natV next, natV last, natV log, natV base, .slice pr runs.length cr] 117)) o
   rwa [show (w.alloc (.cells #[natV next, natV last, natV log, natV base, .slice pr runs.length cr] 117)).heap.size = w.heap.size + 1 by simp] at this
 clear hT
 go_enter Tryz.func244, Tryz.ntmps244
 go_wp2_with fail
 go_region_law (first
   | (refine step_call rfl 121 [.tmp 3] _ rfl enter_settled _ rfl (hset _ ?_) ?_
      exact hvA
      rintro e w1 ⟨p1, c1, rfl, hown1, k1⟩
      have k1' : Keeps w w1 (fun _ => False) := Keeps.trans kA.draw k1 (fun _ _ h => h)
      have hc := k1.same HT.out id
      have c2 := cell_of_heap (o := 2) hc
      simp at c2
      clear hc
      have hown1' := row_base hown1 (base' := w.heap.size) kA.size
      refine ⟨_, rfl, ?_⟩)
   | (refine step_call rfl 121 [.tmp 3] _ rfl enter_settled _ rfl (hset _ ?_) ?_
      exact hvB _
      rintro e w1 ⟨p1, c1, rfl, hown1, k1⟩
      have k1' : Keeps w w1 (fun _ => False) := Keeps.trans (kA.more _).draw k1 (fun _ _ h => h)
      have hown1' := row_base hown1 (base' := w.heap.size) (kA.more _).size
      have hnew1 := k1.same (HTop.out (.cells #[natV log] 3)) id
      refine ⟨_, rfl, ?_⟩)
   | (refine step_append_own_at rfl (.tmp 4) (.tmp 7) 39 rfl w.heap.size 3 j0 (.int .i64 0) 1 8 Tryz.underlying39 hj hy0 hy1 hy2 rfl Nat.zero_lt_one _ _ _ rfl (hown1'.alloc _) ⟨w1.heap.size, 0, none⟩ 1 1 [natV log] rfl rfl (cell_one_new _ _ _) (one_nat log) h63.out hbs.out (k1'.more _).size ?_
      intro p3 cp3 w3 hown3 hg3 hloc3
      have kk : Keeps w w3 (fun _ => False) := (k1'.more _).grow hg3 (fun k e hk => by have := (hown1'.lt k e).1; omega))
   | (refine step_append_own_at rfl (.tmp 4) (.tmp 7) 39 rfl w.heap.size 3 j0 (.int .i64 0) 1 8 Tryz.underlying39 hj hy0 hy1 hy2 rfl Nat.zero_lt_one _ _ _ rfl hown1' _ 1 1 [natV log] rfl rfl (cells_at hnew1 rfl) (one_nat log) h63.out hbs.out k1'.size ?_
      intro p3 cp3 w3 hown3 hg3 hloc3
      have kk : Keeps w w3 (fun _ => False) := k1'.grow hg3 (fun k e hk => by have := (hown1'.lt k e).1; omega)))
 all_goals
   go_wp2
   go_ret
   refine ⟨p3, cp3, rfl, ?_, kk⟩
   rw [HN.out]
   simpa using hown3
theorem strCells (l : List Str) : ∀ u ∈ l.map strV, u.oneCell' = true := by
 intro u hu
 obtain ⟨_, _, rfl⟩ := List.mem_map.1 hu
 rfl
theorem one_str (s : Str) : ∀ u ∈ [strV s], u.oneCell' = true := strCells [s]
set_option maxHeartbeats 1000000 in
set_option maxRecDepth 100000 in
theorem runNames_any {E : Nat → Addr} {B : Nat} {w : World} (v : Value) (l : List Nat) (H : Env E B w) (hv : Nums w v l) (hl : l.length < 1048577) (hs : ∀ n ∈ l, n ≤ 9223372036854775807) :
   Calls Tryz.prog 120 #[v] w fun e w' => ∃ p c, e = .returned (.slice p l.length c) ∧ w'.ownsRow w.heap.size 9 1 (.slice p l.length c) l.length ((l.map runName).map strV) ∧ Keeps w w' (fun _ => False) := by
 obtain ⟨j0, hj, hy0, hy1, hy2⟩ := info_parts Tryz.infoStr
 obtain ⟨pv, cv, rfl, _⟩ := id hv
 go_enter Tryz.func120, Tryz.ntmps120
 go_wp2_with fail
 go_loopw [3, 8] (fun b i wr => ∃ (k : Nat) (p : Option Addr) (c : Nat), k ≤ l.length ∧ i = .int .i64 k ∧ b = .slice p k c ∧
     wr.ownsRow w.heap.size 9 1 (.slice p k c) k (((l.take k).map runName).map strV) ∧ Keeps w wr (fun _ => False))
   (fun _ i _ => l.length - (intOf i).toNat)
 case atStart => exact ⟨0, none, 0, Nat.zero_le _, rfl, rfl, World.ownsRow_nil _ _ _ _, Keeps.refl _ _⟩
 case round =>
   obtain ⟨k, p, c, hk, rfl, rfl, hown, hkw⟩ := hrel
   rcases Nat.lt_or_ge k l.length with hlt | hge
   · obtain ⟨b, o, rfl, e0⟩ := (hv.same hkw).at hlt
     have hsk := hs l[k] (List.getElem_mem hlt)
     have HR := H.same hkw
     go_wp2_with fail
     refine (runName_any l[k] hsk HR).mono ?_
     rintro e w1 ⟨rfl, k1⟩
     have kk := hkw.trans k1 (fun _ _ h => h)
     have hown1 := k1.row hown (fun _ _ h => h)
     have hownA := hown1.alloc (.cells #[strV (runName l[k])] 9)
     have h63 : Hid (k + 1 ≤ maxLen) := by unfold Hid maxLen; omega
     have hbs : Hid ((k + 1) * 16 ≤ 140737488355328) := by unfold Hid; omega
     have hstep : ((l.take (k + 1)).map runName).map strV = ((l.take k).map runName).map strV ++ [strV (runName l[k])] := by
       rw [List.take_succ_eq_append_getElem hlt, List.map_append, List.map_append]
       rfl
     have HS := hide hstep
     clear hstep hown
     go_wp2_with (first | (at_builtin; go_must (refine wpList_append_own_sl _ rfl (.tmp 12) (.tmp 15) 40 rfl w.heap.size 9 j0 (.string ⟨#[]⟩) 1 16 Tryz.underlying40 hj hy0 hy1 hy2 rfl Nat.zero_lt_one _ _ _ rfl hownA ⟨w1.heap.size, 0, none⟩ 1 1 [strV (runName l[k])] rfl rfl (cell_one_new _ _ _) (one_str _) h63.out hbs.out (kk.more _).size ?_); intro p3 cp3 w3 hown3 hg3 hloc3) | go_in)
     have k3 : Keeps w w3 (fun _ => False) := (kk.more _).grow hg3 (fun j e hj => by have := (hown1.lt j e).1; omega)
     rw [← HS.out] at hown3
     exact ⟨⟨k + 1, p3, cp3, by omega, by simp, rfl, hown3, k3⟩, by simp [intOf]; omega⟩
   · have ek : k = l.length := by omega
     subst ek
     rw [List.take_length] at hown
     go_wp2
     go_ret
     exact ⟨p, c, rfl, hown, hkw⟩
def manFiles (m : Ref.Man) : List Str := m.settled.map runName ++ [logName m.log]
theorem enter_runNames (ys : Array Value) (w : World) : (callFunc 120 ys).run Tryz.prog w = .ok (.enter 120 ys) w := by kernel_rfl
theorem enter_logName (ys : Array Value) (w : World) : (callFunc 63 ys).run Tryz.prog w = .ok (.enter 63 ys) w := by kernel_rfl
set_option maxHeartbeats 1000000 in
set_option maxRecDepth 100000 in
theorem manFiles_any {E : Nat → Addr} {B : Nat} {w : World} (m : Ref.Man) (rv : Value) (H : Env E B w) (hv : Nums w rv m.runs) (hl : m.runs.length < 1048576) (hs : ∀ n ∈ m.settled, n ≤ 9223372036854775807) (hlog : m.log ≤ 9223372036854775807) :
   Calls Tryz.prog 165 #[manV m rv] w fun e w' => ∃ p c, e = .returned (.slice p (manFiles m).length c) ∧ w'.ownsRow w.heap.size 9 1 (.slice p (manFiles m).length c) (manFiles m).length ((manFiles m).map strV) ∧ Keeps w w' (fun _ => False) := by
 obtain ⟨j0, hj, hy0, hy1, hy2⟩ := info_parts Tryz.infoStr
 have hsl := settled_length m
 have hF : manFiles m = m.settled.map runName ++ [logName m.log] := rfl
 have hFl : (manFiles m).length = m.settled.length + 1 := by rw [hF]; simp
 rw [hFl]
 have HF := hide hF
 clear hF hFl
 have hset := fun w' (h : Nums w' rv m.runs) => settled_any w' m rv h hl
 generalize manFiles m = FF at HF ⊢
 obtain ⟨next, last, log, base, runs⟩ := m
 simp only at hv hl hsl hset hs hlog HF
 obtain ⟨pr, cr, rfl, _⟩ := id hv
 generalize Ref.Man.settled ⟨next, last, log, base, runs⟩ = S at hsl hset HF hs ⊢
 have kA := Keeps.alloc w (.cells #[natV next, natV last, natV log, natV base, .slice pr runs.length cr] 117) (fun _ => False)
 have hT := heap_alloc_top w (.cells #[natV next, natV last, natV log, natV base, .slice pr runs.length cr] 117)
 have hvA : Nums (w.alloc (.cells #[natV next, natV last, natV log, natV base, .slice pr runs.length cr] 117)).drew (.slice pr runs.length cr) runs := hv.same kA.draw
 have h63 : Hid (S.length + 1 ≤ maxLen) := by unfold Hid maxLen; omega
 have hbs : Hid ((S.length + 1) * 16 ≤ 140737488355328) := by unfold Hid; omega
 have hsm : S.length < 1048577 := by omega
 have HT := hide hT
 clear hT
 go_enter Tryz.func165, Tryz.ntmps165
 go_wp2_with fail
 go_region_law (first
   | (refine step_call rfl 121 [.tmp 3] _ rfl enter_settled _ rfl (hset _ hvA) ?_
      rintro e w1 ⟨p1, c1, rfl, hown1, k1⟩
      have K1 : Keeps w w1 (fun _ => False) := Keeps.trans kA.draw k1 (fun _ _ h => h)
      have hc1 := k1.same HT.out id
      have c2 := cell_of_heap (o := 2) hc1
      simp at c2
      have HC1 := hide hc1
      clear hc1
      have hN1 := nums_of_row hown1 rfl
      refine ⟨_, rfl, ?_⟩)
   | (refine step_call rfl 120 [.tmp 4] _ rfl enter_runNames _ rfl (runNames_any _ S (H.same K1) hN1 hsm hs) ?_
      rintro e w2 ⟨p2, c2', rfl, hown2, k2⟩
      have K2 : Keeps w w2 (fun _ => False) := K1.trans k2 (fun _ _ h => h)
      have hc2 := k2.same HC1.out id
      have c2 := cell_of_heap (o := 2) hc2
      simp at c2
      clear hc2
      refine ⟨_, rfl, ?_⟩)
   | (refine step_call rfl 63 [.tmp 7] _ rfl enter_logName _ rfl (logName_any log hlog (H.same K2)) ?_
      rintro e w3 ⟨rfl, k3⟩
      have K3 : Keeps w w3 (fun _ => False) := K2.trans k3 (fun _ _ h => h)
      have hown3 := row_base (k3.row hown2 (fun _ _ h => h)) (base' := w.heap.size) K1.size
      refine ⟨_, rfl, ?_⟩)
   | (refine step_append_own_at rfl (.tmp 5) (.tmp 9) 40 rfl w.heap.size 9 j0 (.string ⟨#[]⟩) 1 16 Tryz.underlying40 hj hy0 hy1 hy2 rfl Nat.zero_lt_one _ _ _ rfl (hown3.alloc _) ⟨w3.heap.size, 0, none⟩ 1 1 [strV (logName log)] rfl rfl (cell_one_new _ _ _) (one_str _) h63.out hbs.out (K3.more _).size ?_
      intro p4 cp4 w4 hown4 hg4 hloc4
      have kk : Keeps w w4 (fun _ => False) := (K3.more _).grow hg4 (fun k e hk => by have := (hown3.lt k e).1; omega)))
 all_goals
   go_wp2
   go_ret
   refine ⟨p4, cp4, rfl, ?_, kk⟩
   rw [HF.out]
   simpa using hown4
set_option maxRecDepth 100000 in
theorem takeNumber_ok {w : World} {b next : Nat} {x1 x2 x3 x4 : Value} (h : w.heap[b]? = some (.cells #[natV next, x1, x2, x3, x4] 117 (0, 0))) (hn : next < 2000000000) :
   Calls Tryz.prog 110 #[.pointer (some ⟨b, 0, none⟩)] w fun e w' => e = .returned (.tuple #[natV next, .nilIface]) ∧ w'.heap[b]? = some (.cells #[natV (next + 1), x1, x2, x3, x4] 117 (0, 0)) ∧ Keeps w w' (fun i => i = b) := by
 have c0 := cell_of_heap (o := 0) h
 have f0 := frozen_of_heap (o := 0) h
 simp at c0
 have HH := hide h
 clear h
 have hd : decide ((2000000000 : Int) ≤ (next : Int)) = false := by rw [decide_eq_false_iff_not]; omega
 have hd2 : (next : Int) < 2000000000 := by omega
 have hcell : (w.setCell ⟨b, 0, none⟩ (.int .i64 ((next : Int) + 1))).cell? ⟨b, 0, none⟩ = some (.int .i64 ((next : Int) + 1)) := by
   rw [cell_of_heap (heap_setCell_at HH.out _)]
   simp
 clear hn
 go_enter Tryz.func110, Tryz.ntmps110
 go_wp2
 go_ret2
 refine ⟨by simp, ?_, Keeps.setCell w _ _⟩
 rw [heap_setCell_at HH.out]
 simp
abbrev big8 (l : List Nat) : List UInt8 := l.flatMap fun r => Ref.big r 8
theorem big8_length (l : List Nat) : (big8 l).length = 8 * l.length := by
 induction l with
 | nil => rfl
 | cons x r ih => simp only [big8, List.flatMap_cons, List.length_append, Ref.big_length, List.length_cons] at ih ⊢; omega
theorem big8_take_succ {l : List Nat} {k : Nat} (h : k < l.length) : big8 (l.take (k + 1)) = big8 (l.take k) ++ Ref.big l[k] 8 := by
 rw [List.take_succ_eq_append_getElem h]
 simp only [big8, List.flatMap_append, List.flatMap_cons, List.flatMap_nil, List.append_nil]
set_option maxHeartbeats 1000000 in
set_option maxRecDepth 100000 in
theorem manFrame_any (w : World) (m : Ref.Man) (rv : Value) (hv : Nums w rv m.runs) (hl : m.runs.length < 1048576) (hg : m.next < 18446744073709551616 ∧ m.last < 18446744073709551616 ∧ m.log < 18446744073709551616 ∧ m.base < 18446744073709551616 ∧ ∀ r ∈ m.runs, r < 18446744073709551616)
   (hi : (m.next : Int) ≤ 9223372036854775807 ∧ (m.last : Int) ≤ 9223372036854775807 ∧ (m.log : Int) ≤ 9223372036854775807 ∧ (m.base : Int) ≤ 9223372036854775807 ∧ ∀ r ∈ m.runs, (r : Int) ≤ 9223372036854775807) :
   Calls Tryz.prog 166 #[manV m rv] w fun e w' => ∃ p c, e = .returned (.slice p m.bytes.length c) ∧ w'.ownsRow w.heap.size 5 1 (.slice p m.bytes.length c) m.bytes.length (m.bytes.map byteV) ∧ Keeps w w' (fun _ => False) := by
 obtain ⟨next, last, log, base, runs⟩ := m
 simp only at hv hl hg hi
 obtain ⟨g1, g2, g3, g4, g5⟩ := hg
 obtain ⟨i1, i2, i3, i4, i5⟩ := hi
 have hB : Ref.Man.bytes ⟨next, last, log, base, runs⟩ = Ref.frame (big8 [next, last, log, base] ++ Ref.big runs.length 2 ++ big8 runs) := by simp [Ref.Man.bytes, Ref.manifest, big8]
 have HB := hide hB
 clear hB
 generalize Ref.Man.bytes ⟨next, last, log, base, runs⟩ = BB at HB ⊢
 obtain ⟨pr, cr, rfl, _⟩ := id hv
 have kA := Keeps.alloc w (.cells #[natV next, natV last, natV log, natV base, .slice pr runs.length cr] 117) (fun _ => False)
 have hT := heap_alloc_top w (.cells #[natV next, natV last, natV log, natV base, .slice pr runs.length cr] 117)
 generalize hwA : w.alloc (.cells #[natV next, natV last, natV log, natV base, .slice pr runs.length cr] 117) = wA at kA hT
 have kL := Keeps.alloc wA (.cells #[natV next, natV last, natV log, natV base] 3) (fun _ => False)
 have hL := heap_alloc_top wA (.cells #[natV next, natV last, natV log, natV base] 3)
 have hall : ∀ x ∈ [next, last, log, base], x < 18446744073709551616 ∧ (x : Int) ≤ 9223372036854775807 := by
   intro x hx
   simp at hx
   rcases hx with rfl | rfl | rfl | rfl
   · exact ⟨g1, i1⟩
   · exact ⟨g2, i2⟩
   · exact ⟨g3, i3⟩
   · exact ⟨g4, i4⟩
 have HALL := hide hall
 clear hall g1 g2 g3 g4 i1 i2 i3 i4
 have a0 := cell_of_heap (o := 0) hT
 have a1 := cell_of_heap (o := 1) hT
 have a2 := cell_of_heap (o := 2) hT
 have a3 := cell_of_heap (o := 3) hT
 simp at a0 a1 a2 a3
 have hLN : Nums (wA.alloc (.cells #[natV next, natV last, natV log, natV base] 3)) (.slice (some ⟨wA.heap.size, 0, none⟩) [next, last, log, base].length 4) [next, last, log, base] := by
   refine ⟨_, _, rfl, by simp, by unfold maxLen; omega, (fun h => by cases h), fun ad e => ?_⟩
   cases e
   refine ⟨rfl, fun j u hu => ?_⟩
   refine cells_at hL rfl j (natV u) ?_
   have : ([next, last, log, base].map natV)[j]? = some (natV u) := by rw [List.getElem?_map, hu]; rfl
   exact this
 have kAL := kA.trans kL (fun _ _ h => h)
 have HT := hide (kL.same hT id)
 clear hT hL
 generalize hwL : wA.alloc (.cells #[natV next, natV last, natV log, natV base] 3) = wL at kL hLN kAL HT
 generalize hF : [next, last, log, base] = FOUR at hLN HB HALL
 have hF4 : FOUR.length = 4 := by rw [← hF]; rfl
 have HF4 := hide hF4
 rw [hF4] at hLN
 clear hF4 hF
 go_enter Tryz.func166, Tryz.ntmps166
 go_wp2_with fail
 go_loopw [3, 18] (fun b i wr => ∃ (k : Nat) (p : Option Addr) (c : Nat), k ≤ 4 ∧ i = .int .i64 k ∧ b = .slice p (8 * k) c ∧
     wr.ownsRow wL.heap.size 5 1 (.slice p (8 * k) c) (8 * k) ((big8 (FOUR.take k)).map byteV) ∧ Keeps wL wr (fun _ => False))
   (fun _ i _ => 4 - (intOf i).toNat)
 case atStart => exact ⟨0, none, 0, Nat.zero_le _, rfl, rfl, World.ownsRow_nil _ _ _ _, Keeps.refl _ _⟩
 case round =>
   obtain ⟨k, p, c, hk, rfl, rfl, hown, hkw⟩ := hrel
   rcases Nat.lt_or_ge k 4 with hlt | hge
   · have hltF : k < FOUR.length := by rw [HF4.out]; exact hlt
     have hLNr := hLN.same hkw
     rw [← HF4.out] at hLNr
     obtain ⟨b, o, eb, e0⟩ := hLNr.at hltF
     cases eb
     rw [Nat.zero_add] at e0
     obtain ⟨hx1, hx2⟩ := HALL.out FOUR[k] (List.getElem_mem hltF)
     have hcv : ((FOUR[k] : Nat) : Int) % 18446744073709551616 = (FOUR[k] : Nat) := by omega
     have hstep := big8_take_succ hltF
     have HS := hide hstep
     clear hstep
     have hXl : (big8 (FOUR.take k)).length = 8 * k := by rw [big8_length]; simp; omega
     generalize big8 (FOUR.take k) = F at hown HS hXl
     have hm : 8 * k < 1099511627776 := by omega
     have hlt2 := hown.lt
     go_wp2_with (go_at_call 107; refine (appendNumber_any (.slice p (8 * k) c) (8 * k) F FOUR[k] 8 wL.heap.size wr hXl hx1 (Nat.le_refl _) hm hkw.size hown).mono ?_; rintro e w' ⟨p4, c4, rfl, hown4, hgr4⟩)
     have e5 : 8 * k + 8 = 8 * (k + 1) := by omega
     rw [e5] at hown4 hgr4 ⊢
     rw [← HS.out] at hown4
     exact ⟨⟨k + 1, p4, c4, by omega, by simp, rfl, hown4, hkw.trans hgr4.keeps (fun i hi e => by have := (hlt2 i e.symm).1; omega)⟩, by simp [intOf]; omega⟩
   · have ek : k = 4 := by omega
     subst ek
     rw [List.take_of_length_le (by rw [HF4.out]; exact Nat.le_refl _)] at hown
     have hT2 := hkw.same HT.out id
     have b4 := cell_of_heap (o := 4) hT2
     simp at b4
     have HT2 := hide hT2
     clear hT2
     have hX1 : (big8 FOUR).length = 32 := by rw [big8_length, HF4.out]
     have hlt2 := hown.lt
     have hrl : ((runs.length : Nat) : Int) % 18446744073709551616 = (runs.length : Nat) := by omega
     go_wp2_with fail
     refine (appendNumber_any (.slice p 32 c) 32 (big8 FOUR) runs.length 2 wL.heap.size wr hX1 (by omega) (by omega) (by omega) hkw.size hown).mono ?_
     rintro e w1 ⟨p1, c1, rfl, hown1, hgr1⟩
     have K1 : Keeps wL w1 (fun _ => False) := hkw.trans hgr1.keeps (fun i hi e => by have := (hlt2 i e.symm).1; omega)
     have hT3 := K1.same HT.out id
     have b4 := cell_of_heap (o := 4) hT3
     simp at b4
     clear hT3 hlt2 hown hrl
     have hvr := hv.same (kAL.trans K1 (fun _ _ h => h))
     simp only [Nat.reduceAdd] at hown1 ⊢
     have hX2 : (big8 FOUR ++ Ref.big runs.length 2).length = 34 := by rw [List.length_append, hX1, Ref.big_length]
     generalize big8 FOUR ++ Ref.big runs.length 2 = HEAD at hown1 HB hX2
     have HX2 := hide hX2
     clear hX1 hX2
     go_wp2_with fail
     go_loopw [3, 36] (fun b i wr => ∃ (k : Nat) (p : Option Addr) (c : Nat), k ≤ runs.length ∧ i = .int .i64 k ∧ b = .slice p (34 + 8 * k) c ∧
         wr.ownsRow wL.heap.size 5 1 (.slice p (34 + 8 * k) c) (34 + 8 * k) ((HEAD ++ big8 (runs.take k)).map byteV) ∧ Keeps wL wr (fun _ => False))
       (fun _ i _ => runs.length - (intOf i).toNat)
     case atStart => exact ⟨0, p1, c1, Nat.zero_le _, rfl, rfl, by simpa [big8] using hown1, K1⟩
     case round =>
       obtain ⟨k, p, c, hk, rfl, rfl, hown, hkw2⟩ := hrel
       rcases Nat.lt_or_ge k runs.length with hlt | hge
       · have hvk := hv.same (kAL.trans hkw2 (fun _ _ h => h))
         obtain ⟨b, o, rfl, e0⟩ := hvk.at hlt
         have hx1 := g5 runs[k] (List.getElem_mem hlt)
         have hx2 := i5 runs[k] (List.getElem_mem hlt)
         have hcv : ((runs[k] : Nat) : Int) % 18446744073709551616 = (runs[k] : Nat) := by omega
         have hstep := big8_take_succ hlt
         have HS := hide hstep
         clear hstep
         have hXl : (HEAD ++ big8 (runs.take k)).length = 34 + 8 * k := by rw [List.length_append, HX2.out, big8_length]; simp; omega
         have HXL := hide hXl
         clear hXl
         have hm : 34 + 8 * k < 1099511627776 := by omega
         have hlt2 := hown.lt
         go_wp2_with (go_at_call 107; refine (appendNumber_any (.slice p (34 + 8 * k) c) (34 + 8 * k) (HEAD ++ big8 (runs.take k)) runs[k] 8 wL.heap.size wr HXL.out hx1 (Nat.le_refl _) hm hkw2.size hown).mono ?_; rintro e w' ⟨p4, c4, rfl, hown4, hgr4⟩)
         have e5 : 34 + 8 * k + 8 = 34 + 8 * (k + 1) := by omega
         rw [e5] at hown4 hgr4 ⊢
         rw [List.append_assoc, ← HS.out] at hown4
         have kk := hkw2.trans hgr4.keeps (fun i hi e => by have := (hlt2 i e.symm).1; omega)
         refine ⟨?_, by simp [intOf]; omega⟩
         first
           | exact ⟨k + 1, p4, c4, by omega, by simp, rfl, hown4, kk⟩
           | ((repeat apply Exists.intro)
              refine ⟨?_, rfl⟩
              exact ⟨k + 1, p4, c4, by omega, by simp, rfl, hown4, kk⟩)
       · have ek : k = runs.length := by omega
         subst ek
         rw [List.take_length] at hown
         have hXl : (HEAD ++ big8 runs).length = 34 + 8 * runs.length := by rw [List.length_append, HX2.out, big8_length]
         generalize HEAD ++ big8 runs = ALL at hown HB hXl
         rw [← hXl] at hown ⊢
         have hAl : ALL.length < 1099511627776 := by omega
         have hBl : Hid (BB.length = 8 + ALL.length) := by unfold Hid; rw [HB.out]; simp [Ref.frame, Ref.big_length]; omega
         have hlt2 := hown.lt
         clear hXl
         go_wp2_with fail
         refine (make_any _ ALL wr (bytes_of_row hown) hAl).mono ?_
         rintro e w5 ⟨p5, c5, rfl, hown5, k5⟩
         go_wp2
         go_ret
         rw [hBl.out, HB.out]
         exact ⟨p5, c5, rfl, row_base hown5 (Nat.le_trans kAL.size hkw2.size), kAL.trans (hkw2.trans k5 (fun _ _ h => h)) (fun _ _ h => h)⟩
def NumPost (E : Nat → Addr) (w : World) (r : Nat) (res : Option (Nat × List UInt8)) (e : Ending) (w' : World) : Prop :=
 Keeps w w' (fun i => i = r) ∧ ((∃ x q, res = some (x, q) ∧ e = .returned (.tuple #[natV x, .nilIface]) ∧ Rd w' r q) ∨ (∃ v, res = none ∧ e = .returned (.tuple #[natV 0, v]) ∧ FErr E w' v))
set_option maxHeartbeats 400000 in
set_option maxRecDepth 100000 in
theorem readNumber_any {E : Nat → Addr} {B : Nat} {w : World} {r : Nat} {l : List UInt8} (S : Sent E B w) (hB : B ≤ r) (hr : Rd w r l) :
   Calls Tryz.prog 241 #[.pointer (some ⟨r, 0, none⟩)] w (NumPost E w r (Ref.readNum l)) := by
 have hR : Ref.readNum l = if 8 ≤ l.length ∧ Ref.number (l.take 8) ≤ 2000000000 then some (Ref.number (l.take 8), l.drop 8) else none := rfl
 rcases Nat.lt_or_ge l.length 8 with h8 | h8
 · rw [if_neg (by omega)] at hR
   rw [hR]
   clear hR
   go_enter Tryz.func241, Tryz.ntmps241
   go_wp2_with fail
   refine (number_short (n := 8) S hr (by omega) (by omega)).mono ?_
   rintro e w1 ⟨v, rfl, he, hr1, k1⟩
   obtain ⟨t, a, rfl⟩ := he.shape
   go_wp2
   go_ret2
   exact ⟨keepsF k1, .inr ⟨_, rfl, rfl, .of he (by decide)⟩⟩
 · rcases Nat.lt_or_ge 2000000000 (Ref.number (l.take 8)) with hn | hn
   · rw [if_neg (by omega)] at hR
     rw [hR]
     clear hR
     have hd : decide ((2000000000 : Int) < ((Ref.number (l.take 8) : Nat) : Int)) = true := by rw [decide_eq_true_iff]; omega
     have hd2 : (2000000000 : Int) < ((Ref.number (l.take 8) : Nat) : Int) := by omega
     clear hn
     go_enter Tryz.func241, Tryz.ntmps241
     go_wp2_with fail
     refine (number_ok (n := 8) hr h8 (by omega)).mono ?_
     rintro e w1 ⟨rfl, hr1, k1⟩
     generalize Ref.number (l.take 8) = N at hd hd2 ⊢
     have S1 := S.keep k1 (fun i e => by rw [e]; exact hB)
     have s4 := S1.cell 4 (by decide)
     go_wp2_with fail
     go_region
     all_goals
       go_wp2
       go_ret2
       exact ⟨k1.draw, .inr ⟨_, rfl, rfl, .of (.base _ (by decide)) (by decide)⟩⟩
   · rw [if_pos ⟨h8, hn⟩] at hR
     rw [hR]
     clear hR
     have hd : decide ((2000000000 : Int) < ((Ref.number (l.take 8) : Nat) : Int)) = false := by rw [decide_eq_false_iff_not]; omega
     have hd2 : ((Ref.number (l.take 8) : Nat) : Int) ≤ (2000000000 : Int) := by omega
     clear hn
     go_enter Tryz.func241, Tryz.ntmps241
     go_wp2_with fail
     refine (number_ok (n := 8) hr h8 (by omega)).mono ?_
     rintro e w1 ⟨rfl, hr1, k1⟩
     generalize hN : Ref.number (l.take 8) = N at hd hd2 ⊢
     have HN := hide hN
     clear hN
     go_wp2
     go_ret2
     exact ⟨k1, .inl ⟨_, _, rfl, by rw [HN.out]; simp, hr1⟩⟩
abbrev manCells (xs : List Nat) (rv : Value) : Array Value := #[natV (xs.getD 0 0), natV (xs.getD 1 0), natV (xs.getD 2 0), natV (xs.getD 3 0), rv]
theorem manCells_set {xs : List Nat} {k : Nat} (v : Nat) (rv : Value) (h : xs.length = k) (hk : k < 4) : (manCells xs rv).setIfInBounds k (natV v) = manCells (xs ++ [v]) rv := by
 subst h
 match xs, hk with
 | [], _ => simp [manCells]
 | [a], _ => simp [manCells]
 | [a, b], _ => simp [manCells]
 | [a, b, c], _ => simp [manCells]
theorem manCells_at {xs : List Nat} {k : Nat} (rv : Value) (hk : k < 4) : ∃ n, (manCells xs rv)[k]? = some (natV n) := by
 match k, hk with
 | 0, _ => exact ⟨_, rfl⟩
 | 1, _ => exact ⟨_, rfl⟩
 | 2, _ => exact ⟨_, rfl⟩
 | 3, _ => exact ⟨_, rfl⟩
def restN (xs : List Nat) : Option (List Nat × List UInt8) → Option (List Nat × List UInt8)
 | none => none
 | some (ys, q) => some (xs ++ ys, q)
theorem restN_step {xs : List Nat} {n x : Nat} {q q' : List UInt8} (h : Ref.readNum q = some (x, q')) : restN xs (Ref.readNums (n + 1) q) = restN (xs ++ [x]) (Ref.readNums n q') := by
 rw [Ref.readNums, h]
 simp only
 cases Ref.readNums n q' with
 | none => rfl
 | some x => simp [restN]
theorem restN_none {xs : List Nat} {n : Nat} {q : List UInt8} (h : Ref.readNum q = none) : restN xs (Ref.readNums (n + 1) q) = none := by
 rw [Ref.readNums, h]
 rfl
theorem load_man {w : World} {b n l g s : Nat} {p : Option Addr} {k c : Nat} (h : w.heap[b]? = some (.cells #[natV n, natV l, natV g, natV s, .slice p k c] 117 (0, 0))) : (loadVar 117 ⟨b, 0, none⟩).run Tryz.prog w = .ok (.agg #[natV n, natV l, natV g, natV s, .slice p k c]) w := by
 have c0 := cell_of_heap (o := 0) h
 have c1 := cell_of_heap (o := 1) h
 have c2 := cell_of_heap (o := 2) h
 have c3 := cell_of_heap (o := 3) h
 have c4 := cell_of_heap (o := 4) h
 simp at c0 c1 c2 c3 c4
 go_simp
theorem results_man {fn : Func} {t u : Tmp} (h : fn.results = #[.cell t 117, .tmp u]) {tmps : Array Value} {w : World} {b n l g s : Nat} {p : Option Addr} {k c : Nat} (ht : tmps.getD t undef = .pointer (some ⟨b, 0, none⟩))
   (hb : w.heap[b]? = some (.cells #[natV n, natV l, natV g, natV s, .slice p k c] 117 (0, 0))) :
   (results fn tmps).run Tryz.prog w = .ok (.tuple #[.agg #[natV n, natV l, natV g, natV s, .slice p k c], tmps.getD u undef]) w := by
 have hl := load_man hb
 have ht' : tmps[t]?.getD undef = .pointer (some ⟨b, 0, none⟩) := by simpa using ht
 simp [results, h, ht', asAddr, hl]
theorem man_facts {w : World} {b n l g s : Nat} {v : Value} (h : w.heap[b]? = some (.cells #[natV n, natV l, natV g, natV s, v] 117 (0, 0))) :
   (w.cell? ⟨b, 0, none⟩ = some (natV n) ∧ w.cell? ⟨b, 1, none⟩ = some (natV l) ∧ w.cell? ⟨b, 2, none⟩ = some (natV g) ∧ w.cell? ⟨b, 3, none⟩ = some (natV s) ∧ w.cell? ⟨b, 4, none⟩ = some v) ∧ ∀ o, w.frozen? ⟨b, o, none⟩ = false := by
 have c0 := cell_of_heap (o := 0) h
 have c1 := cell_of_heap (o := 1) h
 have c2 := cell_of_heap (o := 2) h
 have c3 := cell_of_heap (o := 3) h
 have c4 := cell_of_heap (o := 4) h
 simp at c0 c1 c2 c3 c4
 exact ⟨⟨c0, c1, c2, c3, c4⟩, fun o => frozen_of_heap h⟩
abbrev setMan (w : World) (b : Nat) (x0 x1 x2 x3 x4 : Value) : World := ((((w.setCell ⟨b, 0, none⟩ x0).setCell ⟨b, 1, none⟩ x1).setCell ⟨b, 2, none⟩ x2).setCell ⟨b, 3, none⟩ x3).setCell ⟨b, 4, none⟩ x4
theorem setMan_heap {w : World} {b : Nat} {y0 y1 y2 y3 y4 : Value} {t : TypeId} {fz : Nat × Nat} (h : w.heap[b]? = some (.cells #[y0, y1, y2, y3, y4] t fz)) (x0 x1 x2 x3 x4 : Value) : (setMan w b x0 x1 x2 x3 x4).heap[b]? = some (.cells #[x0, x1, x2, x3, x4] t fz) := by
 have h1 := heap_setCell_at (o := 0) h x0
 have h2 := heap_setCell_at (o := 1) h1 x1
 have h3 := heap_setCell_at (o := 2) h2 x2
 have h4 := heap_setCell_at (o := 3) h3 x3
 have h5 := heap_setCell_at (o := 4) h4 x4
 simpa using h5
theorem setMan_keeps (w : World) (b : Nat) (x0 x1 x2 x3 x4 : Value) : Keeps w (setMan w b x0 x1 x2 x3 x4) (fun i => i = b) :=
 (((((Keeps.refl w (fun i => i = b)).set (p := ⟨b, 0, none⟩) rfl x0).set (p := ⟨b, 1, none⟩) rfl x1).set (p := ⟨b, 2, none⟩) rfl x2).set (p := ⟨b, 3, none⟩) rfl x3).set (p := ⟨b, 4, none⟩) rfl x4
def ManPost (E : Nat → Addr) (w : World) (T : Nat → Prop) (res : Option Ref.Man) (e : Ending) (w' : World) : Prop :=
 Keeps w w' T ∧ ((∃ m p c, res = some m ∧ e = .returned (.tuple #[manV m (.slice p m.runs.length c), .nilIface]) ∧ w'.ownsRow w.heap.size 3 1 (.slice p m.runs.length c) m.runs.length (m.runs.map natV)) ∨
   (∃ v, res = none ∧ e = .returned (.tuple #[manV ⟨0, 0, 0, 0, []⟩ (.slice none 0 0), v]) ∧ FErr E w' v))
theorem noMan_end {E : Nat → Addr} {w w4 : World} {T : Nat → Prop} {b : Nat} {v : Value} {fn : Func} {t u : Tmp} (h : fn.results = #[.cell t 117, .tmp u]) {a : Act} (ht : a.tmps.getD t undef = .pointer (some ⟨b, 0, none⟩)) (hu : a.tmps.getD u undef = v) (hd : a.defers = []) {res : Option Ref.Man} (hres : res = none)
   {y0 y1 y2 y3 y4 : Value} (hRB : w4.heap[b]? = some (.cells #[y0, y1, y2, y3, y4] 117 (0, 0))) (hbw : w.heap.size ≤ b) (hv : FErr E w4 v) (hk : Keeps w w4 T) :
   bodyPost Tryz.prog fn (ManPost E w T res) Exit.ret a (setMan w4 b (natV 0) (natV 0) (natV 0) (natV 0) (.slice none 0 0)) := by
 have hb := setMan_heap hRB (natV 0) (natV 0) (natV 0) (natV 0) (.slice none 0 0)
 refine bodyPost_ret (results_man (n := 0) (l := 0) (g := 0) (s := 0) (p := none) (k := 0) (c := 0) h ht hb) hd ?_
 rw [hu]
 obtain ⟨k, h1, h2⟩ := hv
 refine ⟨hk.trans (setMan_keeps _ _ _ _ _ _ _) (fun i hi e => by have e' : i = b := e; omega), .inr ⟨v, hres, rfl, ⟨k, h1, h2.keep (setMan_keeps _ _ _ _ _ _ _) (fun i c' hi e => ?_)⟩⟩⟩
 have e' : i = b := hi
 subst e'
 rw [hRB] at e
 cases e
structure Boxes (w wr : World) (xs : List Nat) (rv : Value) : Prop where
 rb : wr.heap[w.heap.size]? = some (.cells #[natV 0, natV 0, natV 0, natV 0, .slice none 0 0] 117 (0, 0))
 mb : wr.heap[w.heap.size + 1]? = some (.cells (manCells xs rv) 117 (0, 0))
 pb : wr.heap[w.heap.size + 1 + 1]? = some (.cells #[.pointer (some ⟨w.heap.size + 1, 0, none⟩), .pointer (some ⟨w.heap.size + 1, 1, none⟩), .pointer (some ⟨w.heap.size + 1, 2, none⟩), .pointer (some ⟨w.heap.size + 1, 3, none⟩)] 313 (0, 0))
theorem Boxes.keep {w wr w' : World} {xs : List Nat} {rv : Value} {T : Nat → Prop} (h : Boxes w wr xs rv) (hk : Keeps wr w' T) (hT : ∀ i, w.heap.size ≤ i → i ≤ w.heap.size + 1 + 1 → ¬ T i) : Boxes w w' xs rv :=
 ⟨hk.same h.rb (hT _ (by omega) (by omega)), hk.same h.mb (hT _ (by omega) (by omega)), hk.same h.pb (hT _ (by omega) (by omega))⟩
theorem Boxes.ptr {w wr : World} {xs : List Nat} {rv : Value} (h : Boxes w wr xs rv) {k : Nat} (hk : k < 4) : wr.cell? ⟨w.heap.size + 1 + 1, k, none⟩ = some (.pointer (some ⟨w.heap.size + 1, k, none⟩)) := by
 rw [cell_of_heap h.pb]
 match k, hk with
 | 0, _ => rfl
 | 1, _ => rfl
 | 2, _ => rfl
 | 3, _ => rfl
theorem Boxes.set {w wr : World} {xs : List Nat} {rv : Value} (h : Boxes w wr xs rv) {k : Nat} (hx : xs.length = k) (hk : k < 4) (v : Nat) : Boxes w (wr.setCell ⟨w.heap.size + 1, k, none⟩ (natV v)) (xs ++ [v]) rv := by
 have ks := Keeps.setCell wr ⟨w.heap.size + 1, k, none⟩ (natV v)
 refine ⟨ks.same h.rb (show ¬ w.heap.size = w.heap.size + 1 by omega), ?_, ks.same h.pb (show ¬ w.heap.size + 1 + 1 = w.heap.size + 1 by omega)⟩
 rw [heap_setCell_at h.mb, manCells_set v rv hx hk]
theorem man_no {w : World} {b : Nat} {x0 x1 x2 x3 : Nat} {rv : Value} {t : TypeId} {fz : Nat × Nat} (hv : ∀ x, rv ≠ byteV x) (h : w.heap[b]? = some (.cells #[natV x0, natV x1, natV x2, natV x3, rv] t fz)) : ∀ j x, w.cell? ⟨b, j, none⟩ ≠ some (byteV x) := by
 intro j x
 rw [cell_of_heap h]
 match j with
 | 0 => simp
 | 1 => simp
 | 2 => simp
 | 3 => simp
 | 4 => simpa using hv x
 | j + 5 => rw [Array.getElem?_eq_none (by simp)]; simp
theorem Rd.above {w w' : World} {r : Nat} {q : List UInt8} {T : Nat → Prop} (h : Rd w r q) (hk : Keeps w w' T) (hT : ∀ i, T i → r < i) : Rd w' r q := by
 obtain ⟨u, h1, h2, h3⟩ := h
 refine ⟨u, hk.same h1 (fun e => by have := hT _ e; omega), ?_, h3⟩
 rcases Classical.em (q = []) with rfl | hq
 · obtain ⟨p, c, rfl, a1, a2, a3, a4⟩ := h2
   exact ⟨p, c, rfl, a1, a2, a3, fun ad e => ⟨(a4 ad e).1, fun j u hu => by cases hu⟩⟩
 · exact h2.keep hk (fun p n c e ht => by have h4 := (h3 hq p n c e).1; have h5 := hT _ ht; omega)
set_option maxHeartbeats 1000000 in
set_option maxRecDepth 100000 in
theorem readFields_any {E : Nat → Addr} {B : Nat} {w : World} {r : Nat} {l : List UInt8} (S : Sent E B w) (hB : B ≤ r) (hr : Rd w r l) :
   Calls Tryz.prog 216 #[.pointer (some ⟨r, 0, none⟩)] w (ManPost E w (fun i => i = r) (Ref.readFields l)) := by
 have hrl : r < w.heap.size := by obtain ⟨v, h1, _⟩ := hr; exact lt_of_heap h1
 obtain ⟨j0, hj, hy0, hy1, hy2⟩ := info_parts Tryz.infoInt
 have hR : Ref.readFields l = match Ref.readNums 4 l with
   | some ([a, b, c, d], q) =>
     if 2 ≤ q.length then
       match Ref.readNums (Ref.number (q.take 2)) (q.drop 2) with
       | some (rs, []) => some ⟨a, b, c, d, rs⟩
       | _ => none
     else none
   | _ => none := rfl
 have HR := hide hR
 clear hR
 generalize Ref.readFields l = RES at HR ⊢
 have hb0 : Boxes w (((w.alloc (.cells #[natV 0, natV 0, natV 0, natV 0, .slice none 0 0] 117)).alloc (.cells #[natV 0, natV 0, natV 0, natV 0, .slice none 0 0] 117)).alloc (.cells #[.pointer (some ⟨w.heap.size + 1, 0, none⟩), .pointer (some ⟨w.heap.size + 1, 1, none⟩), .pointer (some ⟨w.heap.size + 1, 2, none⟩), .pointer (some ⟨w.heap.size + 1, 3, none⟩)] 313)) [] (.slice none 0 0) := by
   have t1 := heap_alloc_top w (.cells #[natV 0, natV 0, natV 0, natV 0, .slice none 0 0] 117)
   have t2 := heap_alloc_top (w.alloc (.cells #[natV 0, natV 0, natV 0, natV 0, .slice none 0 0] 117)) (.cells #[natV 0, natV 0, natV 0, natV 0, .slice none 0 0] 117)
   have t3 := heap_alloc_top ((w.alloc (.cells #[natV 0, natV 0, natV 0, natV 0, .slice none 0 0] 117)).alloc (.cells #[natV 0, natV 0, natV 0, natV 0, .slice none 0 0] 117)) (.cells #[.pointer (some ⟨w.heap.size + 1, 0, none⟩), .pointer (some ⟨w.heap.size + 1, 1, none⟩), .pointer (some ⟨w.heap.size + 1, 2, none⟩), .pointer (some ⟨w.heap.size + 1, 3, none⟩)] 313)
   have e1 : (w.alloc (.cells #[natV 0, natV 0, natV 0, natV 0, .slice none 0 0] 117)).heap.size = w.heap.size + 1 := by simp
   have e2 : ((w.alloc (.cells #[natV 0, natV 0, natV 0, natV 0, .slice none 0 0] 117)).alloc (.cells #[natV 0, natV 0, natV 0, natV 0, .slice none 0 0] 117)).heap.size = w.heap.size + 1 + 1 := by simp
   rw [e1] at t2
   rw [e2] at t3
   exact ⟨(Keeps.alloc _ _ (fun _ => False)).same ((Keeps.alloc _ _ (fun _ => False)).same t1 id) id, (Keeps.alloc _ _ (fun _ => False)).same t2 id, t3⟩
 have k0 : Keeps w (((w.alloc (.cells #[natV 0, natV 0, natV 0, natV 0, .slice none 0 0] 117)).alloc (.cells #[natV 0, natV 0, natV 0, natV 0, .slice none 0 0] 117)).alloc (.cells #[.pointer (some ⟨w.heap.size + 1, 0, none⟩), .pointer (some ⟨w.heap.size + 1, 1, none⟩), .pointer (some ⟨w.heap.size + 1, 2, none⟩), .pointer (some ⟨w.heap.size + 1, 3, none⟩)] 313)) (fun _ => False) := (((Keeps.refl w _).more _).more _).more _
 go_enter Tryz.func216, Tryz.ntmps216
 go_wp2_with fail
 go_loopw [20] (fun i wr => ∃ (k : Nat) (xs : List Nat) (q : List UInt8), k ≤ 4 ∧ xs.length = k ∧ i = .int .i64 k ∧ Boxes w wr xs (.slice none 0 0) ∧ Rd wr r q ∧ Keeps w wr (fun i => i = r) ∧ Ref.readNums 4 l = restN xs (Ref.readNums (4 - k) q))
   (fun i _ => 4 - (intOf i).toNat)
 case atStart => exact ⟨0, [], l, Nat.zero_le _, rfl, rfl, hb0, hr.same k0, keepsF k0, by cases Ref.readNums 4 l <;> simp [restN]⟩
 case round =>
   obtain ⟨k, xs, q, hk, hlen, rfl, hbx, hrq, hkw, hrest⟩ := hrel
   have HREST := hide hrest
   clear hrest
   have Sr := S.keep hkw (fun i e => by rw [e]; exact hB)
   rcases Nat.lt_or_ge k 4 with hlt | hge
   · have hp := hbx.ptr hlt
     go_wp2_with fail
     refine (readNumber_any Sr hB hrq).mono ?_
     rintro e w2 ⟨k2, ⟨x, q', hres, rfl, hr2⟩ | ⟨v, hres, rfl, he⟩⟩
     · have hb2 := hbx.keep k2 (fun i h1 h2 e => by omega)
       obtain ⟨n0, hn0⟩ := manCells_at (xs := xs) (.slice none 0 0) hlt
       have c0 := (cell_of_heap (o := k) hb2.mb).trans hn0
       have f0 := frozen_of_heap (o := k) hb2.mb
       have hbs := hb2.set hlen hlt x
       have ks := Keeps.setCell w2 ⟨w.heap.size + 1, k, none⟩ (natV x)
       have hno : ∀ j y, w2.cell? ⟨w.heap.size + 1, j, none⟩ ≠ some (byteV y) := man_no (fun y => by simp) hb2.mb
       have hr2' := hr2.other ks (show r ≠ w.heap.size + 1 by omega) hno
       have kk : Keeps w (w2.setCell ⟨w.heap.size + 1, k, none⟩ (natV x)) (fun i => i = r) := (keepsR hkw k2).trans ks (fun i hi e => by have e' : i = w.heap.size + 1 := e; omega)
       have hst : Ref.readNums 4 l = restN (xs ++ [x]) (Ref.readNums (4 - (k + 1)) q') := by
         rw [HREST.out, show 4 - k = (4 - (k + 1)) + 1 by omega]
         exact restN_step hres
       have HS := hide hst
       clear hst HREST hno hn0
       go_wp2
       exact ⟨⟨k + 1, xs ++ [x], q', by omega, by simp [hlen], by simp, hbs, hr2', kk, HS.out⟩, by simp [intOf]; omega⟩
     · have hnone : Ref.readNums 4 l = none := by
         rw [HREST.out, show 4 - k = (4 - k - 1) + 1 by omega]
         exact restN_none hres
       have HN : Hid (RES = none) := by unfold Hid; rw [HR.out, hnone]
       clear HR HREST hnone
       have hb2 := hbx.keep k2 (fun i h1 h2 e => by omega)
       obtain ⟨⟨q0, q1, q2, q3, q4⟩, qf⟩ := man_facts hb2.rb
       have f0 := qf 0
       have f1 := qf 1
       have f2 := qf 2
       have f3 := qf 3
       have f4 := qf 4
       obtain ⟨t, a, rfl⟩ := he.shape
       go_wp2
       exact noMan_end (v := .iface t (.pointer (some a))) rfl rfl rfl rfl HN.out hb2.rb (Nat.le_refl _) he (keepsR hkw k2)
   · have ek : k = 4 := by omega
     subst ek
     have h4 : Ref.readNums 4 l = some (xs, q) := by
       rw [HREST.out, Nat.sub_self, Ref.readNums]
       simp [restN]
     clear HREST
     match xs, hlen with
     | [a, b, c, d], _ =>
       have HR2 : Hid (RES = if 2 ≤ q.length then (match Ref.readNums (Ref.number (q.take 2)) (q.drop 2) with | some (rs, []) => some ⟨a, b, c, d, rs⟩ | _ => none) else none) := by
         unfold Hid
         rw [HR.out, h4]
       clear HR h4
       have hRB := hbx.rb
       have hMB : wr.heap[w.heap.size + 1]? = some (.cells #[natV a, natV b, natV c, natV d, .slice none 0 0] 117 (0, 0)) := hbx.mb
       have hszr : w.heap.size + 1 + 1 < wr.heap.size := lt_of_heap hbx.pb
       clear hbx hb0 k0
       have HRB := hide hRB
       have HMB := hide hMB
       clear hRB hMB
       rcases Nat.lt_or_ge q.length 2 with hq2 | hq2
       · have HN : Hid (RES = none) := by unfold Hid; rw [HR2.out, if_neg (by omega)]
         clear HR2
         go_wp2_with fail
         refine (number_short (n := 2) Sr hrq hq2 (by omega)).mono ?_
         rintro e w1 ⟨v, rfl, he, hr1, k1⟩
         obtain ⟨t, ad, rfl⟩ := he.shape
         go_wp2_with fail
         refine (at_some _ he).mono ?_
         rintro e w2 ⟨v2, rfl, he2, k2⟩
         have hRB2 := k2.same (k1.same HRB.out id) id
         obtain ⟨⟨q0, q1, q2', q3, q4⟩, qf⟩ := man_facts hRB2
         have f0 := qf 0
         have f1 := qf 1
         have f2 := qf 2
         have f3 := qf 3
         have f4 := qf 4
         have H2 := hide hRB2
         clear hRB2
         go_wp2
         exact noMan_end (v := v2) rfl rfl rfl rfl HN.out H2.out (Nat.le_refl _) (.of he2 (by decide)) (hkw.trans (k1.trans k2 (fun _ _ h => h)) (fun _ _ h => h.elim))
       · have HR3 : Hid (RES = (match Ref.readNums (Ref.number (q.take 2)) (q.drop 2) with | some (rs, []) => some ⟨a, b, c, d, rs⟩ | _ => none)) := by unfold Hid; rw [HR2.out, if_pos hq2]
         clear HR2
         have hNl := Ref.number_lt (q.take 2)
         rw [show (q.take 2).length = 2 by simp; omega] at hNl
         go_wp2_with fail
         refine (number_ok (n := 2) hrq hq2 (by omega)).mono ?_
         rintro e w1 ⟨rfl, hr1, k1⟩
         have hRB1 := k1.same HRB.out (show ¬ w.heap.size = r by omega)
         have hMB1 := k1.same HMB.out (show ¬ w.heap.size + 1 = r by omega)
         have K1 := keepsR hkw k1
         have hsz1 : w.heap.size + 1 + 1 < w1.heap.size := Nat.lt_of_lt_of_le hszr k1.size
         generalize Ref.number (q.take 2) = N at HR3 hNl ⊢
         generalize q.drop 2 = m at HR3 hr1
         clear HRB HMB hrq hkw Sr
         have HRB := hide hRB1
         have HMB := hide hMB1
         clear hRB1 hMB1
         go_wp2_with fail
         go_loopw [48] (fun i wr => ∃ (k : Nat) (rs : List Nat) (q : List UInt8) (p : Option Addr) (cp : Nat), k ≤ N ∧ rs.length = k ∧ i = .int .u64 k ∧
             wr.heap[w.heap.size]? = some (.cells #[natV 0, natV 0, natV 0, natV 0, .slice none 0 0] 117 (0, 0)) ∧
             wr.heap[w.heap.size + 1]? = some (.cells #[natV a, natV b, natV c, natV d, .slice p k cp] 117 (0, 0)) ∧
             wr.ownsRow (w.heap.size + 1 + 1 + 1) 3 1 (.slice p k cp) k (rs.map natV) ∧ Rd wr r q ∧ Keeps w wr (fun i => i = r) ∧ w.heap.size + 1 + 1 < wr.heap.size ∧ Ref.readNums N m = restN rs (Ref.readNums (N - k) q))
           (fun i _ => N - (intOf i).toNat)
         case atStart => exact ⟨0, [], m, none, 0, Nat.zero_le _, rfl, rfl, HRB.out, HMB.out, World.ownsRow_nil _ _ _ _, hr1, K1, hsz1, by cases Ref.readNums N m <;> simp [restN]⟩
         case round =>
           obtain ⟨k, rs, q, p, cp, hk, hlen, rfl, hRB, hMB, hown, hrq, hkw, hsz, hrest⟩ := hrel
           have HREST := hide hrest
           have HRB := hide hRB
           have HMB := hide hMB
           clear hrest hRB hMB
           have Sr := S.keep hkw (fun i e => by rw [e]; exact hB)
           rcases Nat.lt_or_ge k N with hlt | hge
           · go_wp2_with fail
             refine (readNumber_any Sr hB hrq).mono ?_
             rintro e w2 ⟨k2, ⟨x, q', hres, rfl, hr2⟩ | ⟨v, hres, rfl, he⟩⟩
             · have hRB2 := k2.same HRB.out (show ¬ w.heap.size = r by omega)
               have hMB2 := k2.same HMB.out (show ¬ w.heap.size + 1 = r by omega)
               have hown2 := k2.row hown (fun g hg e => by have := (hown.lt g hg).1; omega)
               obtain ⟨⟨a0, a1, a2, a3, a4⟩, af⟩ := man_facts hMB2
               have f4 := af 4
               have hst : Ref.readNums N m = restN (rs ++ [x]) (Ref.readNums (N - (k + 1)) q') := by
                 rw [HREST.out, show N - k = (N - (k + 1)) + 1 by omega]
                 exact restN_step hres
               have HS := hide hst
               clear hst HREST
               have hownA := hown2.alloc (.cells #[natV x] 3)
               have h63 : Hid (k + 1 ≤ maxLen) := by unfold Hid maxLen; omega
               have hbs : Hid ((k + 1) * 8 ≤ 140737488355328) := by unfold Hid; omega
               have hbb : w.heap.size + 1 + 1 + 1 ≤ (w2.alloc (.cells #[natV x] 3)).heap.size := by have := k2.size; simp; omega
               have hlt2 := hown2.lt
               have HRB2 := hide hRB2
               have HMB2 := hide hMB2
               clear hRB2 hMB2
               go_wp2_with (first
                 | (at_builtin; go_must (refine wpList_append_own_sl _ rfl (.tmp 61) (.tmp 63) 39 rfl (w.heap.size + 1 + 1 + 1) 3 j0 (.int .i64 0) 1 8 Tryz.underlying39 hj hy0 hy1 hy2 rfl Nat.zero_lt_one _ _ _ rfl hownA ⟨w2.heap.size, 0, none⟩ 1 1 [natV x] rfl rfl (cell_one_new _ _ _) (one_nat x) h63.out hbs.out hbb ?_)
                    intro p3 cp3 w3 hown3 hg3 hloc3
                    have kg : Keeps w2 w3 (fun i => some i = (Value.slice p k cp).ownBlock) := ((Keeps.refl w2 _).more _).grow hg3 (fun j e _ => e.symm)
                    have hMB3 := kg.same HMB2.out (fun e => by have := (hlt2 _ e.symm).1; omega)
                    have hRB3 := kg.same HRB2.out (fun e => by have := (hlt2 _ e.symm).1; omega)
                    obtain ⟨⟨b0, b1, b2, b3, b4⟩, bf⟩ := man_facts hMB3
                    have g4 := bf 4
                    have HMB3 := hide hMB3
                    have HRB3 := hide hRB3
                    clear hMB3 hRB3)
                 | go_in)
               have ks := Keeps.setCell w3 ⟨w.heap.size + 1, 4, none⟩ (.slice p3 (k + 1) cp3)
               have KT : Keeps w2 (w3.setCell ⟨w.heap.size + 1, 4, none⟩ (.slice p3 (k + 1) cp3)) (fun i => r < i) := (kg.mono (fun i _ e => by have := (hlt2 i e.symm).1; omega)).trans ks (fun i _ e => by have e' : i = w.heap.size + 1 := e; omega)
               have hrN := hr2.above KT (fun _ h => h)
               have hmN : (w3.setCell ⟨w.heap.size + 1, 4, none⟩ (.slice p3 (k + 1) cp3)).heap[w.heap.size + 1]? = some (.cells #[natV a, natV b, natV c, natV d, .slice p3 (k + 1) cp3] 117 (0, 0)) := by
                 rw [heap_setCell_at HMB3.out]
                 simp
               have hrbN := ks.same HRB3.out (show ¬ w.heap.size = w.heap.size + 1 by omega)
               have hownN := ks.row hown3 (fun g hg e => by have h1 := (hown3.lt g hg).1; have e' : g = w.heap.size + 1 := e; omega)
               have kwN : Keeps w (w3.setCell ⟨w.heap.size + 1, 4, none⟩ (.slice p3 (k + 1) cp3)) (fun i => i = r) := ((keepsR hkw k2).trans kg (fun i hi e => by have := (hlt2 i e.symm).1; omega)).trans ks (fun i hi e => by have e' : i = w.heap.size + 1 := e; omega)
               have hszN : w.heap.size + 1 + 1 < (w3.setCell ⟨w.heap.size + 1, 4, none⟩ (.slice p3 (k + 1) cp3)).heap.size := by have h1 := k2.size; have h2 := KT.size; omega
               have hownN' : (w3.setCell ⟨w.heap.size + 1, 4, none⟩ (.slice p3 (k + 1) cp3)).ownsRow (w.heap.size + 1 + 1 + 1) 3 1 (.slice p3 (k + 1) cp3) (k + 1) ((rs ++ [x]).map natV) := by simpa using hownN
               refine ⟨?_, by simp [intOf]; omega⟩
               first
                 | exact ⟨k + 1, rs ++ [x], q', p3, cp3, by omega, by simp [hlen], by simp, hrbN, hmN, hownN', hrN, kwN, hszN, HS.out⟩
                 | ((repeat apply Exists.intro)
                    refine ⟨?_, rfl⟩
                    exact ⟨k + 1, rs ++ [x], q', p3, cp3, by omega, by simp [hlen], by simp, hrbN, hmN, hownN', hrN, kwN, hszN, HS.out⟩)
             · have hnone : Ref.readNums N m = none := by
                 rw [HREST.out, show N - k = (N - k - 1) + 1 by omega]
                 exact restN_none hres
               have HN : Hid (RES = none) := by unfold Hid; rw [HR3.out, hnone]
               clear HR3 HREST hnone
               obtain ⟨t, ad, rfl⟩ := he.shape
               go_wp2_with fail
               refine (at_form _ he).mono ?_
               rintro e w3 ⟨v3, rfl, he3, k3⟩
               have hRB3 := k3.same (k2.same HRB.out (show ¬ w.heap.size = r by omega)) id
               obtain ⟨⟨q0, q1, q2', q3, q4⟩, qf⟩ := man_facts hRB3
               have f0 := qf 0
               have f1 := qf 1
               have f2 := qf 2
               have f3 := qf 3
               have f4 := qf 4
               have H3 := hide hRB3
               clear hRB3
               go_wp2
               exact noMan_end (v := v3) rfl rfl rfl rfl HN.out H3.out (Nat.le_refl _) he3 ((keepsR hkw k2).trans k3 (fun _ _ h => h.elim))
           · have ek : k = N := by omega
             subst ek
             have hz : Ref.readNums k m = some (rs, q) := by
               rw [HREST.out, Nat.sub_self, Ref.readNums]
               simp [restN]
             clear HREST
             cases q with
             | nil =>
               have HN : Hid (RES = some ⟨a, b, c, d, rs⟩) := by unfold Hid; rw [HR3.out, hz]
               clear HR3 hz
               obtain ⟨⟨a0, a1, a2, a3, a4⟩, _⟩ := man_facts HMB.out
               obtain ⟨⟨q0, q1, q2', q3, q4⟩, qf⟩ := man_facts HRB.out
               have f0 := qf 0
               have f1 := qf 1
               have f2 := qf 2
               have f3 := qf 3
               have f4 := qf 4
               go_wp2_with fail
               refine (end_ok hrq).mono ?_
               rintro e w' ⟨rfl, rfl⟩
               go_wp2
               have hb := setMan_heap HRB.out (natV a) (natV b) (natV c) (natV d) (.slice p k cp)
               refine bodyPost_ret (results_man (n := a) (l := b) (g := c) (s := d) (p := p) (k := k) (c := cp) rfl rfl hb) rfl ?_
               have ks := setMan_keeps w' w.heap.size (natV a) (natV b) (natV c) (natV d) (.slice p k cp)
               refine ⟨hkw.trans ks (fun i hi e => by have e' : i = w.heap.size := e; omega), .inl ⟨⟨a, b, c, d, rs⟩, p, cp, HN.out, by simp only [hlen]; rfl, ?_⟩⟩
               simp only [hlen]
               exact row_base (ks.row hown (fun g hg e => by have h1 := (hown.lt g hg).1; have e' : g = w.heap.size := e; omega)) (by omega)
             | cons y q =>
               have HN : Hid (RES = none) := by unfold Hid; rw [HR3.out, hz]
               clear HR3 hz
               go_wp2_with fail
               refine (end_tail Sr hrq (by simp)).mono ?_
               rintro e w' ⟨v, rfl, he, rfl⟩
               obtain ⟨t, ad, rfl⟩ := he.shape
               obtain ⟨⟨q0, q1, q2', q3, q4⟩, qf⟩ := man_facts HRB.out
               have f0 := qf 0
               have f1 := qf 1
               have f2 := qf 2
               have f3 := qf 3
               have f4 := qf 4
               go_wp2
               exact noMan_end (v := .iface t (.pointer (some ad))) rfl rfl rfl rfl HN.out HRB.out (Nat.le_refl _) (.of he (by decide)) hkw
end Go.Proofs.YtnipbplghijdmaaGreatDoor
