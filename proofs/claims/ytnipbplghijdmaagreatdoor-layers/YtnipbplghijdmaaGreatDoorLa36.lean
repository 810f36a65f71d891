/-
  La: PutG FoldG FullG.
-/
import Derived.Deep.DeepMust
import Derived.Test.YtnipbplghijdmaaGreatDoorLa35
import Derived.Test.YtnipbplghijdmaaGreatDoorLa09
namespace Go.Proofs.YtnipbplghijdmaaGreatDoor
open Go.RowKit Go.Maps Go.WideShapes
set_option linter.unusedVariables false
set_option linter.unusedSimpArgs false
def kto (l : List Ref.Ch) (c : Ref.Ch) (j : Nat) : List Ref.Ch × Bool := (l.take j).foldl (Ref.zu c) ([], c.gone)
theorem U0 {l : List Ref.Ch} {c x : Ref.Ch} {j : Nat} (h : l[j]? = some x) : kto l c (j + 1) = Ref.zu c (kto l c j) x := by
 unfold kto
 rw [List.take_add_one, h, Option.toList_some, List.foldl_append]
 rfl
theorem Kr (c x : Ref.Ch) (s : List Ref.Ch × Bool) : (Ref.zu c s x).1.length ≤ s.1.length + 2 := by
 unfold Ref.zu
 simp only
 repeat' split
 all_goals simp
theorem Wx (l : List Ref.Ch) (c : Ref.Ch) (j : Nat) (hj : j ≤ l.length) : (kto l c j).1.length ≤ 2 * j := by
 induction j with
 | zero => simp [kto]
 | succ j ih =>
   rw [U0 (List.getElem?_eq_getElem (show j < l.length by omega))]
   have h1 := ih (by omega)
   have h2 := Kr c l[j] (kto l c j)
   omega
theorem jf4 (l : List Ref.Ch) (c : Ref.Ch) : Ref.iq l c = Ref.ic c (kto l c l.length) := by
 unfold kto Ref.iq
 rw [List.take_length]
set_option maxHeartbeats 4000000 in
set_option maxRecDepth 100000 in
theorem jer {w : World} (v : Value) (l : List Ref.Ch) (hv : Prs w v l) (hl : l.length < 100000) (c : Ref.Ch) :
   Calls Tryz.prog 73 #[v, .agg #[jc c.key, jc c.value, .bool c.gone]] w fun e w' => ∃ v', e = .returned v' ∧ w'.ownsRow w.heap.size 65 2 v' (Ref.iq l c).length (qj (Ref.iq l c)) ∧ ja w w' (fun _ => False) := by
 obtain ⟨j1, hj1, hz0, hz1, hz2⟩ := info_parts Tryz.jew
 obtain ⟨ck, cv, cg⟩ := c
 simp only
 obtain ⟨p0, c0, rfl⟩ : ∃ p c, v = .slice p l.length c := by obtain ⟨_, h⟩ := hv; obtain ⟨p, c, e⟩ := jh h; exact ⟨p, c, e⟩
 obtain ⟨n, hn⟩ : ∃ n, n = l.length := ⟨_, rfl⟩
 rw [← hn] at hv hl ⊢
 obtain ⟨w1, hw1⟩ : ∃ w1, w1 = w.alloc (.cells #[jc ck, jc cv, .bool cg] 88) := ⟨_, rfl⟩
 obtain ⟨bx, hbx⟩ : ∃ bx, bx = w.heap.size := ⟨_, rfl⟩
 have k1 : ja w w1 (fun _ => False) := by rw [hw1]; exact ja.alloc _ _ _
 have hB1 : w1.heap[bx]? = some (.cells #[jc ck, jc cv, .bool cg] 88 (0, 0)) := by rw [hw1, hbx]; exact jd _ _
 have s1 : w1.heap.size = bx + 1 := by rw [hw1, hbx]; exact Array.size_push _
 have HV := hide (hv.same k1)
 have HN := hide hn
 have HB1 := hide hB1
 have HS1 := hide s1
 have HBX := hide hbx
 have HW1 := hide hw1
 clear hv hn hB1 s1 hbx hw1
 go_enter Tryz.func73, Tryz.ntmps73
 go_wp2_with fail
 rw [← HW1.out, ← HBX.out]
 go_loopw [5, 6, 7] (fun t5 t6 t7 wr => ∃ (j : Nat) (dn : Bool), t7 = .int .i64 j ∧ j ≤ n ∧ t6 = .bool dn ∧ Hid (dn = (kto l ⟨ck, cv, cg⟩ j).2) ∧ wr.ownsRow (bx + 1) 65 2 t5 (kto l ⟨ck, cv, cg⟩ j).1.length (qj (kto l ⟨ck, cv, cg⟩ j).1) ∧ ja w1 wr (fun _ => False)) (fun _ _ t7 _ => n - (intOf t7).toNat)
 case atStart => exact ⟨0, cg, rfl, Nat.zero_le _, rfl, rfl, by simp [kto, qj]; exact World.ownsRow_nil _ _ _ _, ja.refl _ _⟩
 case round =>
   obtain ⟨j, dn, rfl, hjn, rfl, HD, hrw, kk⟩ := hrel
   have HRW := hide hrw
   obtain ⟨pq, cq, rfl⟩ := jh hrw
   have hB2 := kk.same HB1.out id
   have b0 := cell_of_heap (o := 0) hB2
   have b1 := cell_of_heap (o := 1) hB2
   simp at b0 b1
   obtain ⟨q, hq⟩ : ∃ q, q = (kto l ⟨ck, cv, cg⟩ j).1.length := ⟨_, rfl⟩
   have hql := Wx l ⟨ck, cv, cg⟩ j (by rw [← HN.out]; exact hjn)
   rw [← hq] at hql ⊢
   have HQ := hide hq
   obtain ⟨L, hL⟩ : ∃ L, L = (kto l ⟨ck, cv, cg⟩ j).1 := ⟨_, rfl⟩
   have HRWQ : Hid (wr.ownsRow (bx + 1) 65 2 (.slice pq q cq) q (qj L)) := by have := HRW.out; rw [← HQ.out, ← hL] at this; exact this
   have HST : Hid (kto l ⟨ck, cv, cg⟩ j = (L, dn)) := (show kto l ⟨ck, cv, cg⟩ j = (L, dn) from by rw [hL, HD.out])
   have HQL : Hid (q = L.length) := (show q = L.length from by rw [HQ.out, hL])
   have h63 : Hid (q + 1 ≤ maxLen) := (show q + 1 ≤ maxLen from by unfold maxLen; omega)
   have hbs : Hid ((q + 1) * 32 ≤ 140737488355328) := (show (q + 1) * 32 ≤ 140737488355328 from by omega)
   have h63' : Hid (q + 1 + 1 ≤ maxLen) := (show q + 1 + 1 ≤ maxLen from by unfold maxLen; omega)
   have hbs' : Hid ((q + 1 + 1) * 32 ≤ 140737488355328) := (show (q + 1 + 1) * 32 ≤ 140737488355328 from by omega)
   have hs1 := kk.size
   rw [HS1.out] at hs1
   have HSZ := hide hs1
   clear hrw hq hL HD hs1
   rcases Nat.lt_or_ge j n with hlt | hge
   · have hjT : j < l.length := by rw [← HN.out]; exact hlt
     obtain ⟨g, cg', eg, a0, a1⟩ := (HV.out.same kk).at hjT
     injection eg with eg1 eg2 eg3
     subst eg1
     clear eg2 eg3
     have hcj : l[j]? = some l[j] := List.getElem?_eq_getElem hjT
     generalize l[j] = x at a0 a1 hcj
     obtain ⟨xk, xv, xg⟩ := x
     simp only at a0 a1
     have HSTEP := hide (U0 (c := ⟨ck, cv, cg⟩) hcj)
     have hji : (j : Int) < (n : Int) := by omega
     have hwj : IntKind.i64.wrap ((j : Int) + 1) = (j : Int) + 1 := wrap_i64 (by omega) (by omega)
     have HG : Hid (g < bx + 1) := by
       obtain ⟨base, hP⟩ := HV.out
       have h2 := (hP.lt g rfl).2
       rw [HS1.out] at h2
       exact h2
     clear hcj hjT
     have honeX : ∀ u ∈ qj [⟨xk, xv, xg⟩], u.oneCell' = true := Pz _
     have honeC : ∀ u ∈ qj [⟨ck, cv, cg⟩], u.oneCell' = true := Pz _
     have HX : Hid (∀ (W : World) (j' : Nat) (u : Value), (qj [⟨xk, xv, xg⟩])[j']? = some u → (W.alloc (.cells #[jc xk, jc xv] 65)).cell? ((⟨W.heap.size, 0, none⟩ : Addr).add j') = some u) := fun W j' u hu => by
       rw [X7, cell_of_heap (jd W _)]
       simpa [qj] using hu
     have HC : Hid (∀ (W : World) (j' : Nat) (u : Value), (qj [⟨ck, cv, cg⟩])[j']? = some u → (W.alloc (.cells #[jc ck, jc cv] 65)).cell? ((⟨W.heap.size, 0, none⟩ : Addr).add j') = some u) := fun W j' u hu => by
       rw [X7, cell_of_heap (jd W _)]
       simpa [qj] using hu
     by_cases he : xk = ck
     · have hEQ : (xk == ck) = true := by simp [he]
       have hBL : Op.bytesLess xk ck = false := by rw [bytesLess_eq, he]; simp [List.lt_irrefl]
       cases dn with
       | true =>
         have HR1 : Hid (kto l ⟨ck, cv, cg⟩ (j + 1) = (L, true)) := (show kto l ⟨ck, cv, cg⟩ (j + 1) = (L, true) from by rw [HSTEP.out, HST.out]; simp [Ref.zu, he])
         have kkwr := kk
         have HSZwr := HSZ
         have a0wr := a0
         have a1wr := a1
         have b0wr := b0
         have b1wr := b1
         clear he
         go_wp2_with fail
         go_quiet (fail)
         obtain ⟨w11, hw11⟩ : ∃ wq, wq = World.drewN wr nq := ⟨_, rfl⟩
         rw [← hw11]
         have k11 : ja wr w11 (fun _ => False) := by rw [hw11]; exact ja.drewN wr nq _
         clear hw11
         have kkw11 : ja w1 w11 (fun _ => False) := kk.trans k11 (fun _ _ h => h)
         have hroww11 := k11.row HRWQ.out (fun _ _ h => h)
         have HSZw11 : Hid (bx + 1 ≤ w11.heap.size) := Nat.le_trans HSZwr.out k11.size
         have a0w11 := k11.cell a0wr id
         have a1w11 := k11.cell a1wr id
         have b0w11 := k11.cell b0wr id
         have b1w11 := k11.cell b1wr id
         go_wp2_with fail
         go_quiet (fail)
         obtain ⟨w12, hw12⟩ : ∃ wq, wq = World.drewN w11 nq := ⟨_, rfl⟩
         rw [← hw12]
         have k12 : ja w11 w12 (fun _ => False) := by rw [hw12]; exact ja.drewN w11 nq _
         clear hw12
         have kkw12 : ja w1 w12 (fun _ => False) := kkw11.trans k12 (fun _ _ h => h)
         have hroww12 := k12.row hroww11 (fun _ _ h => h)
         have HSZw12 : Hid (bx + 1 ≤ w12.heap.size) := Nat.le_trans HSZw11.out k12.size
         have a0w12 := k12.cell a0w11 id
         have a1w12 := k12.cell a1w11 id
         have b0w12 := k12.cell b0w11 id
         have b1w12 := k12.cell b1w11 id
         go_wp2
         exact ⟨⟨j + 1, true, by simp, by omega, rfl, (show true = _ from by rw [HR1.out]), by rw [HR1.out, ← HQL.out]; exact hroww12, kkw12⟩, by simp [intOf]; omega⟩
       | false =>
         have HR1 : Hid (kto l ⟨ck, cv, cg⟩ (j + 1) = (L ++ [⟨ck, cv, cg⟩], true)) := (show kto l ⟨ck, cv, cg⟩ (j + 1) = (L ++ [⟨ck, cv, cg⟩], true) from by rw [HSTEP.out, HST.out]; simp [Ref.zu, he])
         have kkwr := kk
         have HSZwr := HSZ
         have a0wr := a0
         have a1wr := a1
         have b0wr := b0
         have b1wr := b1
         clear he
         go_wp2_with fail
         go_quiet (fail)
         obtain ⟨w11, hw11⟩ : ∃ wq, wq = World.drewN wr nq := ⟨_, rfl⟩
         rw [← hw11]
         have k11 : ja wr w11 (fun _ => False) := by rw [hw11]; exact ja.drewN wr nq _
         clear hw11
         have kkw11 : ja w1 w11 (fun _ => False) := kk.trans k11 (fun _ _ h => h)
         have hroww11 := k11.row HRWQ.out (fun _ _ h => h)
         have HSZw11 : Hid (bx + 1 ≤ w11.heap.size) := Nat.le_trans HSZwr.out k11.size
         have a0w11 := k11.cell a0wr id
         have a1w11 := k11.cell a1wr id
         have b0w11 := k11.cell b0wr id
         have b1w11 := k11.cell b1wr id
         have hown7 := hroww11.alloc (.cells #[jc ck, jc cv] 65)
         have hnew7 := HC.out w11
         have hsz7 : bx + 1 ≤ (w11.alloc (.cells #[jc ck, jc cv] 65)).heap.size := Nat.le_trans HSZw11.out (ja.alloc w11 _ (fun _ => False)).size
         go_wp2_with (first | (at_builtin; refine jm _ rfl (.tmp 28) (.tmp 34) 55 rfl (bx + 1) 65 j1 prZ 2 32 Tryz.underlying55 hj1 hz0 hz1 hz2 rfl (Nat.zero_lt_succ 1) _ _ _ rfl hown7 ⟨w11.heap.size, 0, none⟩ 1 1 (qj [⟨ck, cv, cg⟩]) rfl rfl hnew7 honeC h63.out hbs.out hsz7 ?_; intro p7 c7 w7 hr7 hg7 hl7; have HLO : Hid (∀ i, (Value.slice pq q cq).ownBlock = some i → bx + 1 ≤ i) := fun i e => (hroww11.lt i e).1; have a0w7 := (ja.grown hg7).cell ((ja.alloc w11 _ (fun _ => False)).cell a0w11 id) (fun e => Nat.lt_irrefl g (Nat.lt_of_lt_of_le HG.out (HLO.out g e.symm))); have a1w7 := (ja.grown hg7).cell ((ja.alloc w11 _ (fun _ => False)).cell a1w11 id) (fun e => Nat.lt_irrefl g (Nat.lt_of_lt_of_le HG.out (HLO.out g e.symm))); have b0w7 := (ja.grown hg7).cell ((ja.alloc w11 _ (fun _ => False)).cell b0w11 id) (fun e => Nat.lt_irrefl bx (Nat.lt_of_lt_of_le (Nat.lt_succ_self bx) (HLO.out bx e.symm))); have b1w7 := (ja.grown hg7).cell ((ja.alloc w11 _ (fun _ => False)).cell b1w11 id) (fun e => Nat.lt_irrefl bx (Nat.lt_of_lt_of_le (Nat.lt_succ_self bx) (HLO.out bx e.symm)))))
         have k7 : ja w1 w7 (fun _ => False) := (kkw11.more _).grow hg7 (fun i e hi => by have := (hroww11.lt i e).1; have := HS1.out; omega)
         have kkw7 := k7
         have HSZw7 : Hid (bx + 1 ≤ w7.heap.size) := (show bx + 1 ≤ w7.heap.size from by have := k7.size; rw [HS1.out] at this; exact this)
         rw [← Qf] at hr7
         go_quiet (fail)
         obtain ⟨w12, hw12⟩ : ∃ wq, wq = World.drewN w7 nq := ⟨_, rfl⟩
         rw [← hw12]
         have k12 : ja w7 w12 (fun _ => False) := by rw [hw12]; exact ja.drewN w7 nq _
         clear hw12
         have kkw12 : ja w1 w12 (fun _ => False) := k7.trans k12 (fun _ _ h => h)
         have hroww12 := k12.row hr7 (fun _ _ h => h)
         have HSZw12 : Hid (bx + 1 ≤ w12.heap.size) := Nat.le_trans HSZw7.out k12.size
         have a0w12 := k12.cell a0w7 id
         have a1w12 := k12.cell a1w7 id
         have b0w12 := k12.cell b0w7 id
         have b1w12 := k12.cell b1w7 id
         go_wp2
         exact ⟨⟨j + 1, true, by simp, by omega, rfl, (show true = _ from by rw [HR1.out]), by rw [HR1.out, List.length_append, ← HQL.out]; exact hroww12, kkw12⟩, by simp [intOf]; omega⟩
     · have hEQ : (xk == ck) = false := by simpa using he
       by_cases hL2 : xk < ck
       · have hBL : Op.bytesLess xk ck = true := by rw [bytesLess_eq]; simpa using hL2
         cases dn with
         | true =>
           have HR1 : Hid (kto l ⟨ck, cv, cg⟩ (j + 1) = (L ++ [⟨xk, xv, xg⟩], true)) := (show kto l ⟨ck, cv, cg⟩ (j + 1) = (L ++ [⟨xk, xv, xg⟩], true) from by rw [HSTEP.out, HST.out]; simp [Ref.zu, he, hL2])
           have kkwr := kk
           have HSZwr := HSZ
           have a0wr := a0
           have a1wr := a1
           have b0wr := b0
           have b1wr := b1
           clear he hL2
           go_wp2_with fail
           go_quiet (fail)
           obtain ⟨w11, hw11⟩ : ∃ wq, wq = World.drewN wr nq := ⟨_, rfl⟩
           rw [← hw11]
           have k11 : ja wr w11 (fun _ => False) := by rw [hw11]; exact ja.drewN wr nq _
           clear hw11
           have kkw11 : ja w1 w11 (fun _ => False) := kk.trans k11 (fun _ _ h => h)
           have hroww11 := k11.row HRWQ.out (fun _ _ h => h)
           have HSZw11 : Hid (bx + 1 ≤ w11.heap.size) := Nat.le_trans HSZwr.out k11.size
           have a0w11 := k11.cell a0wr id
           have a1w11 := k11.cell a1wr id
           have b0w11 := k11.cell b0wr id
           have b1w11 := k11.cell b1wr id
           go_wp2_with fail
           go_quiet (fail)
           obtain ⟨w12, hw12⟩ : ∃ wq, wq = World.drewN w11 nq := ⟨_, rfl⟩
           rw [← hw12]
           have k12 : ja w11 w12 (fun _ => False) := by rw [hw12]; exact ja.drewN w11 nq _
           clear hw12
           have kkw12 : ja w1 w12 (fun _ => False) := kkw11.trans k12 (fun _ _ h => h)
           have hroww12 := k12.row hroww11 (fun _ _ h => h)
           have HSZw12 : Hid (bx + 1 ≤ w12.heap.size) := Nat.le_trans HSZw11.out k12.size
           have a0w12 := k12.cell a0w11 id
           have a1w12 := k12.cell a1w11 id
           have b0w12 := k12.cell b0w11 id
           have b1w12 := k12.cell b1w11 id
           have hown8 := hroww12.alloc (.cells #[jc xk, jc xv] 65)
           have hnew8 := HX.out w12
           have hsz8 : bx + 1 ≤ (w12.alloc (.cells #[jc xk, jc xv] 65)).heap.size := Nat.le_trans HSZw12.out (ja.alloc w12 _ (fun _ => False)).size
           go_wp2_with (first | (at_builtin; refine jm _ rfl (.tmp 44) (.tmp 49) 55 rfl (bx + 1) 65 j1 prZ 2 32 Tryz.underlying55 hj1 hz0 hz1 hz2 rfl (Nat.zero_lt_succ 1) _ _ _ rfl hown8 ⟨w12.heap.size, 0, none⟩ 1 1 (qj [⟨xk, xv, xg⟩]) rfl rfl hnew8 honeX h63.out hbs.out hsz8 ?_; intro p8 c8 w8 hr8 hg8 hl8))
           have k8 : ja w1 w8 (fun _ => False) := (kkw12.more _).grow hg8 (fun i e hi => by have := (hroww12.lt i e).1; have := HS1.out; omega)
           rw [← Qf] at hr8
           exact ⟨⟨j + 1, true, by simp, by omega, rfl, (show true = _ from by rw [HR1.out]), by rw [HR1.out, List.length_append, ← HQL.out]; exact hr8, k8⟩, by simp [intOf]; omega⟩
         | false =>
           have HR1 : Hid (kto l ⟨ck, cv, cg⟩ (j + 1) = (L ++ [⟨xk, xv, xg⟩], false)) := (show kto l ⟨ck, cv, cg⟩ (j + 1) = (L ++ [⟨xk, xv, xg⟩], false) from by rw [HSTEP.out, HST.out]; simp [Ref.zu, he, hL2])
           have kkwr := kk
           have HSZwr := HSZ
           have a0wr := a0
           have a1wr := a1
           have b0wr := b0
           have b1wr := b1
           clear he hL2
           go_wp2_with fail
           go_quiet (fail)
           obtain ⟨w11, hw11⟩ : ∃ wq, wq = World.drewN wr nq := ⟨_, rfl⟩
           rw [← hw11]
           have k11 : ja wr w11 (fun _ => False) := by rw [hw11]; exact ja.drewN wr nq _
           clear hw11
           have kkw11 : ja w1 w11 (fun _ => False) := kk.trans k11 (fun _ _ h => h)
           have hroww11 := k11.row HRWQ.out (fun _ _ h => h)
           have HSZw11 : Hid (bx + 1 ≤ w11.heap.size) := Nat.le_trans HSZwr.out k11.size
           have a0w11 := k11.cell a0wr id
           have a1w11 := k11.cell a1wr id
           have b0w11 := k11.cell b0wr id
           have b1w11 := k11.cell b1wr id
           go_wp2_with fail
           go_quiet (fail)
           obtain ⟨w12, hw12⟩ : ∃ wq, wq = World.drewN w11 nq := ⟨_, rfl⟩
           rw [← hw12]
           have k12 : ja w11 w12 (fun _ => False) := by rw [hw12]; exact ja.drewN w11 nq _
           clear hw12
           have kkw12 : ja w1 w12 (fun _ => False) := kkw11.trans k12 (fun _ _ h => h)
           have hroww12 := k12.row hroww11 (fun _ _ h => h)
           have HSZw12 : Hid (bx + 1 ≤ w12.heap.size) := Nat.le_trans HSZw11.out k12.size
           have a0w12 := k12.cell a0w11 id
           have a1w12 := k12.cell a1w11 id
           have b0w12 := k12.cell b0w11 id
           have b1w12 := k12.cell b1w11 id
           have hown8 := hroww12.alloc (.cells #[jc xk, jc xv] 65)
           have hnew8 := HX.out w12
           have hsz8 : bx + 1 ≤ (w12.alloc (.cells #[jc xk, jc xv] 65)).heap.size := Nat.le_trans HSZw12.out (ja.alloc w12 _ (fun _ => False)).size
           go_wp2_with (first | (at_builtin; refine jm _ rfl (.tmp 44) (.tmp 49) 55 rfl (bx + 1) 65 j1 prZ 2 32 Tryz.underlying55 hj1 hz0 hz1 hz2 rfl (Nat.zero_lt_succ 1) _ _ _ rfl hown8 ⟨w12.heap.size, 0, none⟩ 1 1 (qj [⟨xk, xv, xg⟩]) rfl rfl hnew8 honeX h63.out hbs.out hsz8 ?_; intro p8 c8 w8 hr8 hg8 hl8))
           have k8 : ja w1 w8 (fun _ => False) := (kkw12.more _).grow hg8 (fun i e hi => by have := (hroww12.lt i e).1; have := HS1.out; omega)
           rw [← Qf] at hr8
           exact ⟨⟨j + 1, false, by simp, by omega, rfl, (show false = _ from by rw [HR1.out]), by rw [HR1.out, List.length_append, ← HQL.out]; exact hr8, k8⟩, by simp [intOf]; omega⟩
       · have hBL : Op.bytesLess xk ck = false := by rw [bytesLess_eq]; simpa using hL2
         cases dn with
         | true =>
           have HR1 : Hid (kto l ⟨ck, cv, cg⟩ (j + 1) = (L ++ [⟨xk, xv, xg⟩], true)) := (show kto l ⟨ck, cv, cg⟩ (j + 1) = (L ++ [⟨xk, xv, xg⟩], true) from by rw [HSTEP.out, HST.out]; simp [Ref.zu, he, hL2])
           have kkwr := kk
           have HSZwr := HSZ
           have a0wr := a0
           have a1wr := a1
           have b0wr := b0
           have b1wr := b1
           clear he hL2
           go_wp2_with fail
           go_quiet (fail)
           obtain ⟨w11, hw11⟩ : ∃ wq, wq = World.drewN wr nq := ⟨_, rfl⟩
           rw [← hw11]
           have k11 : ja wr w11 (fun _ => False) := by rw [hw11]; exact ja.drewN wr nq _
           clear hw11
           have kkw11 : ja w1 w11 (fun _ => False) := kk.trans k11 (fun _ _ h => h)
           have hroww11 := k11.row HRWQ.out (fun _ _ h => h)
           have HSZw11 : Hid (bx + 1 ≤ w11.heap.size) := Nat.le_trans HSZwr.out k11.size
           have a0w11 := k11.cell a0wr id
           have a1w11 := k11.cell a1wr id
           have b0w11 := k11.cell b0wr id
           have b1w11 := k11.cell b1wr id
           go_wp2_with fail
           go_quiet (fail)
           obtain ⟨w12, hw12⟩ : ∃ wq, wq = World.drewN w11 nq := ⟨_, rfl⟩
           rw [← hw12]
           have k12 : ja w11 w12 (fun _ => False) := by rw [hw12]; exact ja.drewN w11 nq _
           clear hw12
           have kkw12 : ja w1 w12 (fun _ => False) := kkw11.trans k12 (fun _ _ h => h)
           have hroww12 := k12.row hroww11 (fun _ _ h => h)
           have HSZw12 : Hid (bx + 1 ≤ w12.heap.size) := Nat.le_trans HSZw11.out k12.size
           have a0w12 := k12.cell a0w11 id
           have a1w12 := k12.cell a1w11 id
           have b0w12 := k12.cell b0w11 id
           have b1w12 := k12.cell b1w11 id
           have hown8 := hroww12.alloc (.cells #[jc xk, jc xv] 65)
           have hnew8 := HX.out w12
           have hsz8 : bx + 1 ≤ (w12.alloc (.cells #[jc xk, jc xv] 65)).heap.size := Nat.le_trans HSZw12.out (ja.alloc w12 _ (fun _ => False)).size
           go_wp2_with (first | (at_builtin; refine jm _ rfl (.tmp 44) (.tmp 49) 55 rfl (bx + 1) 65 j1 prZ 2 32 Tryz.underlying55 hj1 hz0 hz1 hz2 rfl (Nat.zero_lt_succ 1) _ _ _ rfl hown8 ⟨w12.heap.size, 0, none⟩ 1 1 (qj [⟨xk, xv, xg⟩]) rfl rfl hnew8 honeX h63.out hbs.out hsz8 ?_; intro p8 c8 w8 hr8 hg8 hl8))
           have k8 : ja w1 w8 (fun _ => False) := (kkw12.more _).grow hg8 (fun i e hi => by have := (hroww12.lt i e).1; have := HS1.out; omega)
           rw [← Qf] at hr8
           exact ⟨⟨j + 1, true, by simp, by omega, rfl, (show true = _ from by rw [HR1.out]), by rw [HR1.out, List.length_append, ← HQL.out]; exact hr8, k8⟩, by simp [intOf]; omega⟩
         | false =>
           have HR1 : Hid (kto l ⟨ck, cv, cg⟩ (j + 1) = ((L ++ [⟨ck, cv, cg⟩]) ++ [⟨xk, xv, xg⟩], true)) := (show kto l ⟨ck, cv, cg⟩ (j + 1) = ((L ++ [⟨ck, cv, cg⟩]) ++ [⟨xk, xv, xg⟩], true) from by rw [HSTEP.out, HST.out]; simp [Ref.zu, he, hL2])
           have kkwr := kk
           have HSZwr := HSZ
           have a0wr := a0
           have a1wr := a1
           have b0wr := b0
           have b1wr := b1
           clear he hL2
           go_wp2_with fail
           go_quiet (fail)
           obtain ⟨w11, hw11⟩ : ∃ wq, wq = World.drewN wr nq := ⟨_, rfl⟩
           rw [← hw11]
           have k11 : ja wr w11 (fun _ => False) := by rw [hw11]; exact ja.drewN wr nq _
           clear hw11
           have kkw11 : ja w1 w11 (fun _ => False) := kk.trans k11 (fun _ _ h => h)
           have hroww11 := k11.row HRWQ.out (fun _ _ h => h)
           have HSZw11 : Hid (bx + 1 ≤ w11.heap.size) := Nat.le_trans HSZwr.out k11.size
           have a0w11 := k11.cell a0wr id
           have a1w11 := k11.cell a1wr id
           have b0w11 := k11.cell b0wr id
           have b1w11 := k11.cell b1wr id
           have hown7 := hroww11.alloc (.cells #[jc ck, jc cv] 65)
           have hnew7 := HC.out w11
           have hsz7 : bx + 1 ≤ (w11.alloc (.cells #[jc ck, jc cv] 65)).heap.size := Nat.le_trans HSZw11.out (ja.alloc w11 _ (fun _ => False)).size
           go_wp2_with (first | (at_builtin; refine jm _ rfl (.tmp 28) (.tmp 34) 55 rfl (bx + 1) 65 j1 prZ 2 32 Tryz.underlying55 hj1 hz0 hz1 hz2 rfl (Nat.zero_lt_succ 1) _ _ _ rfl hown7 ⟨w11.heap.size, 0, none⟩ 1 1 (qj [⟨ck, cv, cg⟩]) rfl rfl hnew7 honeC h63.out hbs.out hsz7 ?_; intro p7 c7 w7 hr7 hg7 hl7; have HLO : Hid (∀ i, (Value.slice pq q cq).ownBlock = some i → bx + 1 ≤ i) := fun i e => (hroww11.lt i e).1; have a0w7 := (ja.grown hg7).cell ((ja.alloc w11 _ (fun _ => False)).cell a0w11 id) (fun e => Nat.lt_irrefl g (Nat.lt_of_lt_of_le HG.out (HLO.out g e.symm))); have a1w7 := (ja.grown hg7).cell ((ja.alloc w11 _ (fun _ => False)).cell a1w11 id) (fun e => Nat.lt_irrefl g (Nat.lt_of_lt_of_le HG.out (HLO.out g e.symm))); have b0w7 := (ja.grown hg7).cell ((ja.alloc w11 _ (fun _ => False)).cell b0w11 id) (fun e => Nat.lt_irrefl bx (Nat.lt_of_lt_of_le (Nat.lt_succ_self bx) (HLO.out bx e.symm))); have b1w7 := (ja.grown hg7).cell ((ja.alloc w11 _ (fun _ => False)).cell b1w11 id) (fun e => Nat.lt_irrefl bx (Nat.lt_of_lt_of_le (Nat.lt_succ_self bx) (HLO.out bx e.symm)))))
           have k7 : ja w1 w7 (fun _ => False) := (kkw11.more _).grow hg7 (fun i e hi => by have := (hroww11.lt i e).1; have := HS1.out; omega)
           have kkw7 := k7
           have HSZw7 : Hid (bx + 1 ≤ w7.heap.size) := (show bx + 1 ≤ w7.heap.size from by have := k7.size; rw [HS1.out] at this; exact this)
           rw [← Qf] at hr7
           go_quiet (fail)
           obtain ⟨w12, hw12⟩ : ∃ wq, wq = World.drewN w7 nq := ⟨_, rfl⟩
           rw [← hw12]
           have k12 : ja w7 w12 (fun _ => False) := by rw [hw12]; exact ja.drewN w7 nq _
           clear hw12
           have kkw12 : ja w1 w12 (fun _ => False) := k7.trans k12 (fun _ _ h => h)
           have hroww12 := k12.row hr7 (fun _ _ h => h)
           have HSZw12 : Hid (bx + 1 ≤ w12.heap.size) := Nat.le_trans HSZw7.out k12.size
           have a0w12 := k12.cell a0w7 id
           have a1w12 := k12.cell a1w7 id
           have b0w12 := k12.cell b0w7 id
           have b1w12 := k12.cell b1w7 id
           have hown8 := hroww12.alloc (.cells #[jc xk, jc xv] 65)
           have hnew8 := HX.out w12
           have hsz8 : bx + 1 ≤ (w12.alloc (.cells #[jc xk, jc xv] 65)).heap.size := Nat.le_trans HSZw12.out (ja.alloc w12 _ (fun _ => False)).size
           go_wp2_with (first | (at_builtin; refine jm _ rfl (.tmp 44) (.tmp 49) 55 rfl (bx + 1) 65 j1 prZ 2 32 Tryz.underlying55 hj1 hz0 hz1 hz2 rfl (Nat.zero_lt_succ 1) _ _ _ rfl hown8 ⟨w12.heap.size, 0, none⟩ 1 1 (qj [⟨xk, xv, xg⟩]) rfl rfl hnew8 honeX h63'.out hbs'.out hsz8 ?_; intro p8 c8 w8 hr8 hg8 hl8))
           have k8 : ja w1 w8 (fun _ => False) := (kkw12.more _).grow hg8 (fun i e hi => by have := (hroww12.lt i e).1; have := HS1.out; omega)
           rw [← Qf] at hr8
           exact ⟨⟨j + 1, true, by simp, by omega, rfl, (show true = _ from by rw [HR1.out]), by rw [HR1.out, List.length_append, List.length_append, ← HQL.out]; exact hr8, k8⟩, by simp [intOf]; omega⟩
   · have hji : ¬ (j : Int) < (n : Int) := by omega
     have hjn2 : j = l.length := by rw [← HN.out]; omega
     have HEND : Hid (Ref.iq l ⟨ck, cv, cg⟩ = Ref.ic ⟨ck, cv, cg⟩ (L, dn)) := (show Ref.iq l ⟨ck, cv, cg⟩ = Ref.ic ⟨ck, cv, cg⟩ (L, dn) from by rw [jf4, ← hjn2, HST.out])
     clear hjn2
     cases dn with
     | true =>
       have HE2 : Hid (Ref.iq l ⟨ck, cv, cg⟩ = L) := (show Ref.iq l ⟨ck, cv, cg⟩ = L from by rw [HEND.out]; rfl)
       go_wp2
       go_ret
       exact ⟨_, rfl, by rw [HE2.out, ← HQL.out]; exact xx HRWQ.out (by have := HBX.out; omega), k1.trans kk (fun _ _ h => h)⟩
     | false =>
       have HE2 : Hid (Ref.iq l ⟨ck, cv, cg⟩ = L ++ [⟨ck, cv, cg⟩]) := (show Ref.iq l ⟨ck, cv, cg⟩ = L ++ [⟨ck, cv, cg⟩] from by rw [HEND.out]; rfl)
       have honeC : ∀ u ∈ qj [⟨ck, cv, cg⟩], u.oneCell' = true := Pz _
       have HC : Hid (∀ (W : World) (j' : Nat) (u : Value), (qj [⟨ck, cv, cg⟩])[j']? = some u → (W.alloc (.cells #[jc ck, jc cv] 65)).cell? ((⟨W.heap.size, 0, none⟩ : Addr).add j') = some u) := fun W j' u hu => by
         rw [X7, cell_of_heap (jd W _)]
         simpa [qj] using hu
       have HSZwr := HSZ
       have kkwr := kk
       have hown7 := HRWQ.out.alloc (.cells #[jc ck, jc cv] 65)
       have hnew7 := HC.out wr
       have hsz7 : bx + 1 ≤ (wr.alloc (.cells #[jc ck, jc cv] 65)).heap.size := Nat.le_trans HSZwr.out (ja.alloc wr _ (fun _ => False)).size
       go_wp2_with (first | (at_builtin; refine jm _ rfl (.tmp 53) (.tmp 59) 55 rfl (bx + 1) 65 j1 prZ 2 32 Tryz.underlying55 hj1 hz0 hz1 hz2 rfl (Nat.zero_lt_succ 1) _ _ _ rfl hown7 ⟨wr.heap.size, 0, none⟩ 1 1 (qj [⟨ck, cv, cg⟩]) rfl rfl hnew7 honeC h63.out hbs.out hsz7 ?_; intro p7 c7 w7 hr7 hg7 hl7))
       go_ret
       have k7 : ja w1 w7 (fun _ => False) := (kkwr.more _).grow hg7 (fun i e hi => by have := (HRWQ.out.lt i e).1; have := HS1.out; omega)
       rw [← Qf] at hr7
       exact ⟨_, rfl, by rw [HE2.out, List.length_append, ← HQL.out]; exact xx hr7 (by have := HBX.out; omega), k1.trans k7 (fun _ _ h => h)⟩
theorem Ref.jci {l : List Ref.Ch} (c : Ref.Ch) (h : Ref.ji l) (hl : Ref.Live l) : Ref.ji (Ref.iq l c) ∧ Ref.Live (Ref.iq l c) ∧ (Ref.iq l c).length ≤ l.length + 1 := by
 rw [Ref.jbn h hl]
 refine ⟨Ref.Jg (Ref.Js h), Ref.Cx _, ?_⟩
 have h1 : (Ref.there (Ref.ins c l)).length ≤ (Ref.ins c l).length := List.length_filter_le _ _
 have h2 := (Ref.Ce c l).1
 omega
theorem Ref.Lg {l : List Ref.Ch} (b : List Ref.Ch) (h : Ref.ji l) (hl : Ref.Live l) : Ref.ji (Ref.Xa l b) ∧ Ref.Live (Ref.Xa l b) ∧ (Ref.Xa l b).length ≤ l.length + b.length := by
 induction b generalizing l with
 | nil => exact ⟨h, hl, Nat.le_refl _⟩
 | cons c r ih =>
   obtain ⟨h1, h2, h3⟩ := Ref.jci c h hl
   obtain ⟨g1, g2, g3⟩ := ih h1 h2
   have e : Ref.Xa l (c :: r) = Ref.Xa (Ref.iq l c) r := rfl
   rw [e]
   exact ⟨g1, g2, by rw [List.length_cons]; omega⟩
theorem Ref.Wz (l b : List Ref.Ch) (c : Ref.Ch) : Ref.Xa l (b ++ [c]) = Ref.iq (Ref.Xa l b) c := by simp [Ref.Xa, List.foldl_append]
theorem Ref.jaa (ess : List (List Ref.Ch)) (h8 : ∀ b ∈ ess, b.length ≤ 8) (i : Nat) : Ref.ji (Ref.Qr (ess.take i)) ∧ Ref.Live (Ref.Qr (ess.take i)) ∧ (Ref.Qr (ess.take i)).length ≤ 8 * i := by
 induction i with
 | zero => exact ⟨List.Pairwise.nil, fun x hx => (by cases hx), Nat.le_refl _⟩
 | succ i ih =>
   rw [List.take_add_one]
   cases h : ess[i]? with
   | none =>
     rw [Option.toList_none, List.append_nil]
     exact ⟨ih.1, ih.2.1, by have := ih.2.2; omega⟩
   | some b =>
     rw [Option.toList_some, Ref.r9]
     obtain ⟨g1, g2, g3⟩ := Ref.Lg b ih.1 ih.2.1
     have hb := h8 b (List.mem_of_getElem? h)
     exact ⟨g1, g2, by have := ih.2.2; omega⟩
def Wri (w : World) (v : Value) (ess : List (List Ref.Ch)) : Prop := ∃ base xs, w.ownsRow base 38 1 v ess.length xs ∧ ∀ i (h : i < ess.length), ∃ x, xs[i]? = some x ∧ Chs w x ess[i]
theorem Wri.same {w w' : World} {v : Value} {ess : List (List Ref.Ch)} (h : Wri w v ess) (k : ja w w' (fun _ => False)) : Wri w' v ess := by
 obtain ⟨base, xs, h1, h2⟩ := h
 refine ⟨base, xs, k.row h1 (fun _ _ h => h), fun i hi => ?_⟩
 obtain ⟨x, h3, h4⟩ := h2 i hi
 exact ⟨x, h3, h4.same k⟩
theorem Wri.at {w : World} {v : Value} {ess : List (List Ref.Ch)} (h : Wri w v ess) {k : Nat} (hk : k < ess.length) : ∃ g c x, v = .slice (some ⟨g, 0, none⟩) ess.length c ∧ w.cell? ⟨g, k, none⟩ = some x ∧ Chs w x ess[k] := by
 obtain ⟨base, xs, h, hx⟩ := h
 obtain ⟨x, h5, h6⟩ := hx k hk
 rcases h.2 with ⟨_, h0⟩ | ⟨g, cap, cur, e, _, hgg, h1, h2, h3, h4⟩
 · omega
 · refine ⟨g, cap, x, e, ?_, h6⟩
   rw [cell_of_heap hgg]
   rw [← h4, List.getElem?_take] at h5
   split at h5
   · simpa using h5
   · cases h5
set_option maxHeartbeats 4000000 in
set_option maxRecDepth 100000 in
theorem jcj {w : World} (v : Value) (ess : List (List Ref.Ch)) (hv : Wri w v ess) (h8 : ∀ b ∈ ess, b.length ≤ 8) (hn : ess.length ≤ 1000) :
   Calls Tryz.prog 30 #[v, j4 ess.length] w fun e w' => ∃ v', e = .returned v' ∧ w'.ownsRow w.heap.size 65 2 v' (Ref.Qr ess).length (qj (Ref.Qr ess)) ∧ ja w w' (fun _ => False) := by
 obtain ⟨p0, c0, rfl⟩ : ∃ p c, v = .slice p ess.length c := by obtain ⟨_, _, h, _⟩ := hv; obtain ⟨p, c, e⟩ := jh h; exact ⟨p, c, e⟩
 obtain ⟨n, hnn⟩ : ∃ n, n = ess.length := ⟨_, rfl⟩
 have HV := hide hv
 have H8 := hide h8
 have HN := hide hnn
 have HG := hide (Ref.jaa ess h8)
 rw [← hnn] at hn ⊢
 clear hv h8 hnn
 go_enter Tryz.func30, Tryz.ntmps30
 go_wp2_with fail
 go_loopw [5, 6, 7] (fun t5 t6 t7 wr => ∃ (i : Nat), t6 = .int .i64 i ∧ i ≤ n ∧ wr.ownsRow w.heap.size 65 2 t5 (Ref.Qr (ess.take i)).length (qj (Ref.Qr (ess.take i))) ∧ ja w wr (fun _ => False)) (fun _ t6 _ _ => n - (intOf t6).toNat)
 case atStart => exact ⟨0, rfl, Nat.zero_le _, by simp [Ref.Qr, qj]; exact World.ownsRow_nil _ _ _ _, ja.refl _ _⟩
 case round =>
   obtain ⟨i, rfl, hin, hrw, kk⟩ := hrel
   have HRW := hide hrw
   obtain ⟨pq, cq, rfl⟩ := jh hrw
   obtain ⟨q, hq⟩ : ∃ q, q = (Ref.Qr (ess.take i)).length := ⟨_, rfl⟩
   rw [← hq]
   have HQ := hide hq
   clear hrw hq
   rcases Nat.lt_or_ge i n with hlt | hge
   · have hii : (i : Int) < (n : Int) := by omega
     have hwi : IntKind.i64.wrap ((i : Int) + 1) = (i : Int) + 1 := wrap_i64 (by omega) (by omega)
     have hi2 : i < ess.length := by rw [← HN.out]; exact hlt
     have HI2 := hide hi2
     obtain ⟨wo, hwo⟩ : ∃ wo, wo = wr := ⟨_, rfl⟩
     have HWO := hide hwo
     have HKO : Hid (ja w wo (fun _ => False)) := by rw [hwo]; exact kk
     clear hwo hi2
     go_wp2_with fail
     go_loopw [5, 7] (fun t5 t7 wr2 => ∃ (k : Nat), t7 = .int .i64 k ∧ k ≤ (ess[i]'HI2.out).length ∧ wr2.ownsRow w.heap.size 65 2 t5 (Ref.Xa (Ref.Qr (ess.take i)) ((ess[i]'HI2.out).take k)).length (qj (Ref.Xa (Ref.Qr (ess.take i)) ((ess[i]'HI2.out).take k))) ∧ ja w wr2 (fun _ => False)) (fun _ t7 _ => (ess[i]'HI2.out).length - (intOf t7).toNat)
     case atStart => exact ⟨0, rfl, Nat.zero_le _, by rw [List.take_zero]; show World.ownsRow _ _ _ _ _ (Ref.Qr (ess.take i)).length (qj (Ref.Qr (ess.take i))); rw [HQ.out]; exact HRW.out, kk⟩
     case round =>
       obtain ⟨k, rfl, hkl, hrk, kk2⟩ := hrel
       have HRK := hide hrk
       obtain ⟨pk, ck, rfl⟩ := jh hrk
       obtain ⟨g, cg, x, eg, c1, hch⟩ := (HV.out.same kk2).at HI2.out
       injection eg with eg1 eg2 eg3
       subst eg1
       clear eg2 eg3
       have hb8 := H8.out _ (List.getElem_mem HI2.out)
       have hgood := HG.out i
       have hkg := Ref.Lg ((ess[i]'HI2.out).take k) hgood.1 hgood.2.1
       have htk : ((ess[i]'HI2.out).take k).length ≤ k := List.length_take_le _ _
       obtain ⟨b, hb⟩ : ∃ b, b = (ess[i]'HI2.out) := ⟨_, rfl⟩
       obtain ⟨pb, cb, rfl⟩ : ∃ p c, x = .slice p b.length c := by obtain ⟨p, c, e, _⟩ := hch; rw [hb]; exact ⟨p, c, e⟩
       rw [← hb] at hch hb8 hkg htk HRK ⊢ hkl
       have HB := hide hb
       obtain ⟨nb, hnb⟩ : ∃ nb, nb = b.length := ⟨_, rfl⟩
       have HCH := hide hch
       have HNB := hide hnb
       rw [← hnb] at hkl hb8 c1 ⊢
       clear hb hnb hrk hch
       obtain ⟨q2, hq2⟩ : ∃ q, q = (Ref.Xa (Ref.Qr (ess.take i)) (b.take k)).length := ⟨_, rfl⟩
       have hP : Prs wr (.slice pk (Ref.Xa (Ref.Qr (ess.take i)) (b.take k)).length ck) (Ref.Xa (Ref.Qr (ess.take i)) (b.take k)) := ⟨_, HRK.out⟩
       have HL2 : Hid ((Ref.Xa (Ref.Qr (ess.take i)) (b.take k)).length < 100000) := (show _ < _ from by have := hkg.2.2; have := hgood.2.2; omega)
       have HQ2 := hide hq2
       rw [← hq2] at hP ⊢
       have HP := hide hP
       clear hkg hgood htk hP hq2
       rcases Nat.lt_or_ge k nb with hk | hk
       · have hki : (k : Int) < (nb : Int) := by omega
         have hwk : IntKind.i64.wrap ((k : Int) + 1) = (k : Int) + 1 := wrap_i64 (by omega) (by omega)
         have hk2 : k < b.length := by rw [← HNB.out]; exact hk
         obtain ⟨bb, bo, rfl, d0, d1, d2⟩ := HCH.out.at hk2
         have HSN : Hid (Ref.Xa (Ref.Qr (ess.take i)) (b.take (k + 1)) = Ref.iq (Ref.Xa (Ref.Qr (ess.take i)) (b.take k)) b[k]) := (show _ = _ from by rw [List.take_add_one, List.getElem?_eq_getElem hk2, Option.toList_some, Ref.Wz])
         have HPUT := hide (jer _ _ HP.out HL2.out b[k])
         generalize b[k] = x at d0 d1 d2 HSN HPUT
         obtain ⟨xk, xv, xg⟩ := x
         simp only at d0 d1 d2
         clear hk2
         go_wp2_with fail
         refine HPUT.out.mono ?_
         rintro e w3 ⟨v3, rfl, hr3, k3⟩
         go_wp2
         exact ⟨⟨k + 1, by simp, by omega, by rw [HSN.out]; exact xx hr3 kk2.size, kk2.trans k3 (fun _ _ h => h)⟩, by simp [intOf]; omega⟩
       · have hki : ¬ (k : Int) < (nb : Int) := by omega
         have hkn : b.take k = b := List.take_of_length_le (by rw [← HNB.out]; exact hk)
         have HEQ : Hid (Ref.Qr (ess.take (i + 1)) = Ref.Xa (Ref.Qr (ess.take i)) (b.take k)) := (show _ = _ from by rw [hkn, List.take_add_one, List.getElem?_eq_getElem HI2.out, Option.toList_some, Ref.r9, ← HB.out])
         clear hkn
         go_wp2
         exact ⟨⟨i + 1, by simp, by omega, by rw [HEQ.out, HQ2.out]; exact HRK.out, kk2⟩, by simp [intOf]; omega⟩
   · have hii : ¬ (i : Int) < (n : Int) := by omega
     have hie : ess.take i = ess := List.take_of_length_le (by rw [← HN.out]; exact hge)
     have HIE := hide hie
     clear hie
     go_wp2
     go_ret
     exact ⟨_, rfl, by have := HRW.out; rw [HIE.out] at this; rw [HQ.out, HIE.out]; exact this, kk⟩
def Qj (S : je) (nm : Str) : Nat := (S.at nm).elim 0 (fun f => (Xw S.files f).length)
theorem Un {S : je} {V : List (Str × List UInt8)} (h : View S V) : (S.keys.map (Qj S)).sum = qm V := by
 obtain ⟨T, F, p⟩ := h
 have h1 : S.keys.Perm (T.map Prod.fst) := (List.mergeSort_perm _ _).trans F.toks.keys
 rw [Dp (h1.map _), Ij p]
 unfold qm Q8
 rw [List.map_map, List.map_map]
 congr 1
 refine List.map_congr_left (fun q hq => ?_)
 have e : S.at q.1 = some q.2 := by
   unfold je.at
   rw [F.toks.at (n := q.1) (f := q.2) hq]
   rfl
 show Qj S q.1 = _
 unfold Qj
 rw [e]
 rfl
theorem jd4 {w : World} {ρ : Nat → jw} {d : Nat} {S : je} (nm : Str) (R : Rep w ρ d S) (Z : Small S) (hn : nm.length < 1099511627776) :
   Calls Tryz.prog 46 #[.pointer (some ⟨d, 0, none⟩), jc nm] w fun e w' => ∃ p c ok, e = .returned (.tuple #[.slice p (Qj S nm) c, .bool ok]) ∧ ja w w' (fun _ => False) := by
 refine (jd5 nm R Z hn).mono ?_
 rintro e w' ⟨kk, ⟨h, rfl⟩ | ⟨f, a, p, c, h, ha, rfl, _⟩⟩
 · have : Qj S nm = 0 := by unfold Qj; rw [h]; rfl
   rw [this]
   exact ⟨none, 0, false, rfl, kk⟩
 · have : Qj S nm = a.bytes.length := by unfold Qj Xw; rw [h]; simp [ha]
   rw [this]
   exact ⟨p, c, true, rfl, kk⟩
def Jj (S : je) (i : Nat) : Nat := ((S.keys.take i).map (Qj S)).sum
theorem K7 (S : je) (i : Nat) : Jj S i ≤ Jj S S.keys.length := by
 unfold Jj
 rw [List.take_length]
 have h : S.keys = S.keys.take i ++ S.keys.drop i := (List.take_append_drop i S.keys).symm
 have : (S.keys.map (Qj S)).sum = ((S.keys.take i).map (Qj S)).sum + ((S.keys.drop i).map (Qj S)).sum := by
   conv => lhs; rw [h]
   rw [List.map_append, List.sum_append]
 omega
theorem Ri (S : je) {i : Nat} (h : i < S.keys.length) : Jj S (i + 1) = Jj S i + Qj S S.keys[i] := by
 unfold Jj
 rw [List.take_add_one, List.getElem?_eq_getElem h, Option.toList_some, List.map_append, List.sum_append]
 simp
theorem jfr {w : World} {base : Nat} {p : Option Addr} {c : Nat} {K : List Str} (h : w.ownsRow base 9 1 (.slice p K.length c) K.length (K.map encStr)) {i : Nat} (hi : i < K.length) : ∃ g, p = some ⟨g, 0, none⟩ ∧ w.cell? ⟨g, i, none⟩ = some (jc K[i]) := by
 rcases h.2 with ⟨_, h0⟩ | ⟨g, cap, cur, e, _, hgg, h1, h2, h3, h4⟩
 · omega
 · injection e with e1 e2 e3
   refine ⟨g, e1, ?_⟩
   have h5 : (K.map encStr)[i]? = some (jc K[i]) := by rw [List.getElem?_map, List.getElem?_eq_getElem hi]; rfl
   rw [cell_of_heap hgg]
   rw [← h4, List.getElem?_take] at h5
   split at h5
   · simpa using h5
   · cases h5
set_option maxHeartbeats 4000000 in
set_option maxRecDepth 100000 in
theorem Sd {E : Nat → Addr} {B : Nat} {w : World} {d b k : Nat} {s : Ref.St} {F : Nat → Prop} (O : Own E B w d b s k F) (hk : k < 540000000000) {kb : Nat} {wv : Value} (hrow : w.heap[kb]? = some (.cells (Er d b wv) 51 (0, 0))) (hs : qm s.files ≤ 20000) :
   Calls Tryz.prog 28 #[.pointer (some ⟨kb, 0, none⟩)] w fun e w' => e = .returned (.bool (decide (5000 < qm s.files))) ∧ ja w w' (fun _ => False) := by
 obtain ⟨ρ, ⟨S, D, hW, hV, hF⟩, _⟩ := O.disk
 have Z := hF.small (by omega)
 have HALL := hide (jbs D.rep Z)
 have HD := hide D
 have HZ := hide Z
 have hsum := Un hV
 have hsz : Maps.size S.names ≤ k := hF.names
 have hks : ∀ n ∈ S.keys, n.length ≤ k := hF.keys
 have hkl : S.keys.length = Maps.size S.names := by
   obtain ⟨T, FT, p⟩ := hV
   have h1 : S.keys.Perm (T.map Prod.fst) := (List.mergeSort_perm _ _).trans FT.toks.keys
   rw [h1.length_eq, List.length_map, FT.toks.size]
 obtain ⟨N, hN⟩ : ∃ N, N = qm s.files := ⟨_, rfl⟩
 have HSUM : Hid (Jj S S.keys.length = N) := (show Jj S S.keys.length = N from by unfold Jj; rw [List.take_length, hsum, hN])
 have HKS := hide hks
 rw [← hN] at hs ⊢
 obtain ⟨n, hn⟩ : ∃ n, n = S.keys.length := ⟨_, rfl⟩
 have hnk : n ≤ k := by omega
 have HN := hide hn
 have q0 := cell_of_heap (o := 0) hrow
 simp at q0
 have HROW := hide hrow
 clear D hsum hsz hks hkl hN hW hV hF Z hrow O hn
 go_enter Tryz.func28, Tryz.ntmps28
 go_wp2_with fail
 refine HALL.out.mono ?_
 rintro e w1 ⟨k1, p1, c1, rfl, hr1⟩
 have HR1 := hide hr1
 rw [← HN.out]
 clear hr1
 go_wp2_with fail
 go_loopw [3, 5, 6, 7] (fun t3 t5 t6 t7 wr => ∃ i : Nat, t5 = .int .i64 i ∧ i ≤ n ∧ t3 = .int .i64 (Jj S i) ∧ ja w1 wr (fun _ => False)) (fun _ t5 _ _ _ => n - (intOf t5).toNat)
 case atStart => exact ⟨0, rfl, Nat.zero_le _, by simp [Jj], ja.refl _ _⟩
 case round =>
   obtain ⟨i, rfl, hin, rfl, kk⟩ := hrel
   have hle := K7 S i
   rw [HSUM.out] at hle
   rcases Nat.lt_or_ge i n with hlt | hge
   · have hii : (i : Int) < (n : Int) := by omega
     have hwi : IntKind.i64.wrap ((i : Int) + 1) = (i : Int) + 1 := wrap_i64 (by omega) (by omega)
     have hi2 : i < S.keys.length := by rw [← HN.out]; exact hlt
     have hst := Ri S hi2
     have hle2 := K7 S (i + 1)
     rw [HSUM.out] at hle2
     obtain ⟨g, rfl, a0⟩ := jfr (kk.row HR1.out (fun _ _ h => h)) hi2
     have hnl := HKS.out _ (List.getElem_mem hi2)
     have kd : ja wr wr.drew (fun _ => False) := ja.drew wr _
     have HPK := hide (jd4 S.keys[i] (((HD.out.same k1).same kk).same kd).rep HZ.out (by omega))
     generalize S.keys[i] = nm at a0 hnl hst HPK
     have q0r := kk.cell (k1.cell q0 id) id
     have hws : IntKind.i64.wrap ((Jj S i : Int) + (Qj S nm : Int)) = (Jj S i : Int) + (Qj S nm : Int) := wrap_i64 (by omega) (by omega)
     have HSTEP : Hid (Jj S (i + 1) = Jj S i + Qj S nm) := hst
     generalize Qj S nm = ln at HPK hws HSTEP
     generalize Jj S i = sm at hws HSTEP hle ⊢
     clear hst hle2 hi2 hnl hle
     go_wp2_with fail
     go_region_with (go_at_call 46; refine HPK.out.mono ?_; rintro e w3 ⟨p3, c3, ok3, rfl, k3⟩)
     all_goals
       go_wp2
       exact ⟨⟨i + 1, by simp, by omega, by rw [HSTEP.out]; simp, kk.trans (kd.trans k3 (fun _ _ h => h)) (fun _ _ h => h)⟩, by simp [intOf]; omega⟩
   · have hii : ¬ (i : Int) < (n : Int) := by omega
     have hie : i = S.keys.length := by rw [← HN.out]; omega
     have HE : Hid (Jj S i = N) := (show Jj S i = N from by rw [hie]; exact HSUM.out)
     rw [HE.out]
     clear hie hle
     go_wp2
     go_ret
     exact ⟨by simp [decide_eq_decide]; omega, k1.trans kk (fun _ _ h => h)⟩
end Go.Proofs.YtnipbplghijdmaaGreatDoor
