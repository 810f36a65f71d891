/-
  La: Insert.
-/
import Derived.Lib.Overlaps
import Derived.Lib.AppendZeros
import Derived.Laws.Externs
import Derived.Test.YtnipbplghijdmaaGreatDoorLa14
import Derived.Test.YtnipbplghijdmaaGreatDoorLa18
namespace Go.Proofs.YtnipbplghijdmaaGreatDoor
open Go.RowKit Go.Maps Go.WideShapes
set_option linter.unusedVariables false
theorem Tryz.jgv (w : World) : (sizeOf 88).run Tryz.prog w = .ok 3 w := by kernel_rfl
theorem Chs.src {w : World} {v : Value} {l : List Ref.Ch} (h : Chs w v l) : Src Tryz.prog 3 38 v l.length (jg l) w := by
 obtain ⟨p, c, rfl, h1, h2, h3, h4⟩ := h
 cases p with
 | none =>
   have : c = 0 := h3 rfl
   have hl : l = [] := List.eq_nil_of_length_eq_zero (by omega)
   subst hl
   exact Src.ofNil w Tryz.underlying38 c
 | some ad => exact Src.ofSlice w Tryz.underlying38 ad l.length c _ (za l) (fun j u hu => (h4 ad rfl).2 j u hu) (tu l)
theorem Jw (a b : List Ref.Ch) : jg (a ++ b) = jg a ++ jg b := by simp [jg]
def One (w : World) (q : Nat) (c : Ref.Ch) : Prop := w.heap[q]? = some (.cells (jg [c]).toArray 88 (0, 0))
set_option maxHeartbeats 2000000 in
set_option maxRecDepth 100000 in
theorem jaf (v : Value) (l : List Ref.Ch) (c : Ref.Ch) (base q : Nat) (w : World) (hl : l.length < 1048576) (hbase : base ≤ w.heap.size) (hown : w.ownsRow base 88 3 v l.length (jg l)) (hx : One w q c) :
   Calls Tryz.prog 155 #[v, .int .i64 l.length, .slice (some ⟨q, 0, none⟩) 1 1] w fun e w' =>
     ∃ v', e = .returned v' ∧ w'.ownsRow base 88 3 v' (l.length + 1) (jg (l ++ [c])) ∧ Grown w v w' v' := by
 have hsrc : Src Tryz.prog 3 38 (.slice (some ⟨q, 0, none⟩) 1 1) 1 (jg [c]) w := by
   refine Src.ofSlice w Tryz.underlying38 ⟨q, 0, none⟩ 1 1 _ rfl (fun j u hu => ?_) (tu _)
   exact Qc hx rfl j u hu
 obtain ⟨p, cp, rfl⟩ := jh hown
 have H63 : Hid (l.length + 1 ≤ maxLen) := by unfold Hid maxLen; omega
 have HBY : Hid ((l.length + 1) * 40 ≤ 140737488355328) := by unfold Hid; omega
 clear hl
 obtain ⟨j0, hj, hy0, hy1, hy2⟩ := info_parts Tryz.Z8
 rcases p with _ | ⟨g, o, sp⟩
 all_goals
   go_enter Tryz.func155, Tryz.ntmps155
   go_wp2_with (at_builtin; go_must (refine Q4 _ rfl (.tmp 23) (.tmp 24) 38 38 rfl base 88 j0 A8 3 40 Tryz.underlying38 hj hy0 hy1 hy2 rfl (Nat.zero_lt_succ 2) _ l.length (jg l) rfl hown _ 1 (jg [c]) rfl hsrc H63.out HBY.out hbase ?_); intro p2 cp2 w2 hown2 hg2 hl2)
   all_goals
     go_ret
     exact ⟨_, rfl, by rw [Jw]; exact hown2, Grown.grown hg2 hl2⟩
theorem Tv {α : Type} (A B R C : List α) (k : Nat) (hC : C.length = k) (hR : k ≤ R.length) (L L1 : List α) (hL : L = A ++ (B ++ R)) (h1 : L1 = L.take (A.length + k) ++ B ++ L.drop (A.length + k + B.length)) :
   L1.take A.length ++ C ++ L1.drop (A.length + k) = A ++ (C ++ (B ++ R.drop k)) := by
 have e1 : L.take (A.length + k) = A ++ (B ++ R).take k := by rw [hL, List.take_append, List.take_of_length_le (by omega), Nat.add_sub_cancel_left]
 have e2 : L.drop (A.length + k + B.length) = R.drop k := by
   rw [hL, List.drop_append, List.drop_eq_nil_of_le (by omega), List.nil_append, List.drop_append, List.drop_eq_nil_of_le (by omega), List.nil_append]
   congr 1
   omega
 have e3 : ((B ++ R).take k).length = k := by rw [List.length_take, List.length_append]; omega
 rw [e1, e2] at h1
 have e4 : L1 = A ++ ((B ++ R).take k ++ (B ++ R.drop k)) := by rw [h1]; simp
 have e5 : L1.take A.length = A := by rw [e4, List.take_left]
 have e6 : L1.drop (A.length + k) = B ++ R.drop k := by
   rw [e4, List.drop_append, List.drop_eq_nil_of_le (by omega), List.nil_append, Nat.add_sub_cancel_left, List.drop_append, List.drop_eq_nil_of_le (by omega), List.nil_append, e3, Nat.sub_self, List.drop_zero]
 rw [e5, e6]
 simp
set_option maxHeartbeats 4000000 in
set_option maxRecDepth 100000 in
theorem U7 (g cap : Nat) (a : List Ref.Ch) (y : Ref.Ch) (b : List Ref.Ch) (c : Ref.Ch) (q n : Nat) (cur : Array Value) (w : World) (hn : n = a.length + (b.length + 1)) (hcap : n + 1 ≤ cap) (hc40 : cap ≤ maxLen)
   (hg : w.heap[g]? = some (.cells cur 88 (0, 0))) (hcur : cur.size = cap * 3) (htake : cur.toList.take (n * 3) = jg (a ++ y :: b)) (hx : One w q c) (hne : q ≠ g) :
   Calls Tryz.prog 155 #[.slice (some ⟨g, 0, none⟩) n cap, .int .i64 a.length, .slice (some ⟨q, 0, none⟩) 1 1] w fun e w' =>
     e = .returned (.slice (some ⟨g, 0, none⟩) (n + 1) cap) ∧ (∃ cur', w'.heap[g]? = some (.cells cur' 88 (0, 0)) ∧ cur'.size = cap * 3 ∧ cur'.toList.take ((n + 1) * 3) = jg (a ++ c :: y :: b)) ∧ ja w w' (fun i => i = g) := by
 obtain ⟨i, hi⟩ : ∃ i, i = a.length := ⟨_, rfl⟩
 rw [← hi] at hn ⊢
 have hm63 : maxLen = 9223372036854775807 := by unfold maxLen; rfl
 rw [hm63] at hc40
 have hz2 : ¬ ((i : Int) = (n : Int)) := by omega
 have hov : ∀ lb cb, (callFunc 191 #[.slice (some ⟨q, 0, none⟩) 1 1, .slice (some ⟨g, (i + 1) * 3, none⟩) lb cb]).run Tryz.prog w = .ok (.value (.bool false)) w := fun lb cb => by
   rw [run_callFunc_extern Tryz.func191 (by kernel_rfl) (by kernel_rfl) (by kernel_rfl) (e := Extern.SlicesOverlaps.overlaps #[38, 38] #[4]) (by kernel_rfl),
     Lib.run_overlaps_apart w 38 4 88 Tryz.underlying38 3 Tryz.jgv ⟨q, 0, none⟩ ⟨g, (i + 1) * 3, none⟩ 1 1 lb cb hne 88 88 3 cur.size (by unfold World.shape?; rw [hx]; rfl) (by unfold World.shape?; rw [hg]) (by omega) (frozen_of_heap hx) (frozen_of_heap hx)]
   rfl
 have hsz : (Tryz.prog.info? 88).map (·.size) = some 3 := by kernel_rfl
 have hsz := hide hsz
 obtain ⟨B, hB⟩ : ∃ B, B = jg (y :: b) := ⟨_, rfl⟩
 have hBl : B.length = (n - i) * 3 := by rw [hB, za, List.length_cons]; congr 1; omega
 have hB1 : ∀ u ∈ B, u.oneCell' = true := by rw [hB]; exact tu _
 have hAl : (jg a).length = i * 3 := by rw [za, hi]
 have hL : cur.toList = jg a ++ (B ++ cur.toList.drop (n * 3)) := by
   rw [← List.append_assoc, hB, ← Jw, ← htake, List.take_append_drop]
 have hRl : 3 ≤ (cur.toList.drop (n * 3)).length := by rw [List.length_drop, Array.length_toList, hcur]; omega
 have hsrc1 : ∀ j u, B[j]? = some u → w.drew.cell? ((⟨g, i * 3, none⟩ : Addr).add j) = some u := by
   intro j u hu
   rw [X7]
   have h2 := cell_of_heap (o := i * 3 + j) hg
   refine Eq.trans (b := w.cell? ⟨g, i * 3 + j, none⟩) rfl ?_
   rw [h2, ← Array.getElem?_toList, hL, List.getElem?_append_right (by omega), hAl, Nat.add_sub_cancel_left, List.getElem?_append_left (List.getElem?_eq_some_iff.1 hu).1]
   exact hu
 have hmin1 : n - i = Nat.min (n + 1 - i) (n - i) := by show _ = min _ _; rw [Nat.min_def]; split <;> omega
 have hfit1 : (i + 1) * 3 + B.length ≤ cur.size := by rw [hBl, hcur]; omega
 have HF := hide hfit1
 have HM := hide hmin1
 have HBL := hide hBl
 have HSRC := hide hsrc1
 have HL := hide hL
 have HRL := hide hRl
 have HAL := hide hAl
 have HB1 := hide hB1
 have HCUR := hide hcur
 have HG := hide hg
 have HX := hide hx
 clear hfit1 hmin1 hBl hsrc1 hL hRl hAl hB1 hcur hg hx htake
 have hw1 : IntKind.i64.wrap ((i : Int) + 1) = (i : Int) + 1 := wrap_i64 (by omega) (by omega)
 have hb1 : (0 : Int) ≤ (i : Int) + 1 := by omega
 have hin : i ≤ n := by omega
 have htn : ((i : Int) + 1).toNat = i + 1 := by omega
 have hb2 : ¬ (cap = i + 1) := by omega
 have hb3 : (i : Int) ≤ (n : Int) + 1 := by omega
 have hb4 : ¬ (cap = i) := by omega
 have hroom : ¬ ((cap : Int) < (n : Int) + 1) := by omega
 have hw2 : IntKind.i64.wrap ((n : Int) + 1) = (n : Int) + 1 := wrap_i64 (by omega) (by omega)
 have htn2 : ((n : Int) + 1).toNat = n + 1 := by omega
 have hin2 : (i : Int) < (n : Int) := by omega
 have HN := hide hn
 have HI := hide hi
 have HBB := hide hB
 clear hn hi hB hm63 hc40
 go_enter Tryz.func155, Tryz.ntmps155
 go_wp2_with (simp only [hov])
 go_region_law (refine Dr rfl (.tmp 73) (.tmp 76) 38 38 rfl 88 3 Tryz.underlying38 hsz.out g ((i + 1) * 3) (n - i) (cap - (i + 1)) ⟨g, i * 3, none⟩ (n + 1 - i) (cap - i) (by simp [Act.eval, Act.put]) (by simp [Act.eval, Act.put]) cur 88 HG.out B (n - i) HM.out HBL.out HSRC.out HF.out HB1.out ?_; intro w1 hc1)
 obtain ⟨hg1, k1⟩ := hc1
 obtain ⟨cur1, e1⟩ : ∃ cur1 : Array Value, cur1.toList = cur.toList.take ((i + 1) * 3) ++ B ++ cur.toList.drop ((i + 1) * 3 + B.length) := ⟨(cur.toList.take ((i + 1) * 3) ++ B ++ cur.toList.drop ((i + 1) * 3 + B.length)).toArray, rfl⟩
 rw [← e1] at hg1
 have hsh := Tv (jg a) B (cur.toList.drop (n * 3)) (jg [c]) 3 (za [c]) HRL.out cur.toList cur1.toList HL.out (by rw [HAL.out, show i * 3 + 3 = (i + 1) * 3 by omega]; exact e1)
 rw [HAL.out] at hsh
 have hlen1 : cur1.size = cap * 3 := by
   have h1 : cur.toList.length = cap * 3 := by rw [Array.length_toList]; exact HCUR.out
   have h2 := HF.out
   rw [HCUR.out] at h2
   have h3 := congrArg List.length e1
   simp only [List.length_append, List.length_take, List.length_drop, h1, Array.length_toList] at h3
   omega
 have hx1 : w1.heap[q]? = some (.cells (jg [c]).toArray 88 (0, 0)) := k1.same (w := w.drew) HX.out hne
 have hsrc2 := Qc hx1 rfl
 have HF2 : Hid (i * 3 + (jg [c]).length ≤ cur1.size) := by unfold Hid; rw [hlen1, za]; simp only [List.length_cons, List.length_nil]; omega
 have HM2 : Hid (1 = Nat.min 1 (n + 1 - i)) := by unfold Hid; show _ = min _ _; rw [Nat.min_def]; split <;> omega
 have HSH := hide hsh
 have HL1 := hide hlen1
 have HG1 := hide hg1
 have HS2 := hide hsrc2
 clear hsh hlen1 hg1 hsrc2 hx1 e1
 go_wp2_with (refine vg rfl (.tmp 80) (.tmp 81) 38 38 rfl 88 3 Tryz.underlying38 hsz.out g (i * 3) (n + 1 - i) (cap - i) ⟨q, 0, none⟩ 1 1 rfl rfl cur1 88 HG1.out (jg [c]) 1 HM2.out rfl HS2.out HF2.out (tu [c]) ?_; intro w2 hc2)
 go_ret
 obtain ⟨hg2, k2⟩ := hc2
 refine ⟨rfl, ⟨_, hg2, ?_, ?_⟩, ((ja.drew w _).trans k1 (fun _ _ h => h)).trans k2 (fun _ _ h => h)⟩
 · rw [List.size_toArray, show (jg [c]).length = 3 from rfl, HSH.out]
   have h1 := congrArg List.length HL.out
   rw [Array.length_toList, HCUR.out, List.length_append, List.length_append] at h1
   have h2 := HRL.out
   have h3 := HAL.out
   rw [List.length_append, List.length_append, List.length_append, List.length_drop, show (jg [c]).length = 3 from rfl]
   omega
 · rw [show (jg [c]).length = 3 from rfl]
   show List.take _ (List.take (i * 3) cur1.toList ++ jg [c] ++ List.drop (i * 3 + 3) cur1.toList) = _
   rw [HSH.out, show a ++ c :: y :: b = a ++ ([c] ++ (y :: b)) from rfl, Jw, Jw, ← HBB.out]
   have e3 : (n + 1) * 3 = (jg a ++ (jg [c] ++ B)).length := by
     rw [List.length_append, List.length_append, HAL.out, HBL.out, show (jg [c]).length = 3 from rfl]
     omega
   rw [e3, show jg a ++ (jg [c] ++ (B ++ List.drop 3 (List.drop (n * 3) cur.toList))) = (jg a ++ (jg [c] ++ B)) ++ List.drop 3 (List.drop (n * 3) cur.toList) by simp only [List.append_assoc]]
   exact List.take_left
set_option maxHeartbeats 4000000 in
set_option maxRecDepth 100000 in
theorem U8 (g cap : Nat) (a : List Ref.Ch) (y : Ref.Ch) (b : List Ref.Ch) (c : Ref.Ch) (q n : Nat) (cur : Array Value) (w : World) (hn : n = a.length + (b.length + 1)) (hcap : cap = n) (hc40 : n < 1048576)
   (hg : w.heap[g]? = some (.cells cur 88 (0, 0))) (htake : cur.toList.take (n * 3) = jg (a ++ y :: b)) (hx : One w q c) :
   Calls Tryz.prog 155 #[.slice (some ⟨g, 0, none⟩) n cap, .int .i64 a.length, .slice (some ⟨q, 0, none⟩) 1 1] w fun e w' =>
     ∃ cap', e = .returned (.slice (some ⟨w.heap.size, 0, none⟩) (n + 1) cap') ∧ n + 1 ≤ cap' ∧ cap' ≤ maxLen ∧ (∃ cur', w'.heap[w.heap.size]? = some (.cells cur' 88 (0, 0)) ∧ cur'.size = cap' * 3 ∧ cur'.toList.take ((n + 1) * 3) = jg (a ++ c :: y :: b)) ∧ ja w w' (fun _ => False) := by
 obtain ⟨i, hi⟩ : ∃ i, i = a.length := ⟨_, rfl⟩
 rw [← hi] at hn ⊢
 have hgl := lt_of_heap hg
 have hql := lt_of_heap hx
 have hsz : (Tryz.prog.info? 88).map (·.size) = some 3 := by kernel_rfl
 have hsz := hide hsz
 obtain ⟨B, hB⟩ : ∃ B, B = jg (y :: b) := ⟨_, rfl⟩
 have hBl : B.length = (n - i) * 3 := by rw [hB, za, List.length_cons]; congr 1; omega
 have hB1 : ∀ u ∈ B, u.oneCell' = true := by rw [hB]; exact tu _
 have hAl : (jg a).length = i * 3 := by rw [za, hi]
 have hL : cur.toList = jg a ++ (B ++ cur.toList.drop (n * 3)) := by
   rw [← List.append_assoc, hB, ← Jw, ← htake, List.take_append_drop]
 have hatA : ∀ j u, (jg a)[j]? = some u → w.cell? ((⟨g, 0, none⟩ : Addr).add j) = some u := by
   intro j u hu
   rw [add_zero, cell_of_heap hg, ← Array.getElem?_toList, hL, List.getElem?_append_left (List.getElem?_eq_some_iff.1 hu).1]
   exact hu
 have hatB : ∀ j u, B[j]? = some u → w.cell? (⟨g, i * 3 + j, none⟩ : Addr) = some u := by
   intro j u hu
   rw [cell_of_heap hg, ← Array.getElem?_toList, hL, List.getElem?_append_right (by omega), hAl, Nat.add_sub_cancel_left, List.getElem?_append_left (List.getElem?_eq_some_iff.1 hu).1]
   exact hu
 obtain ⟨j0, hj, hy0, hy1, hy2⟩ := info_parts Tryz.Z8
 obtain ⟨k, hk⟩ : ∃ k, i + k = n + 1 := ⟨n + 1 - i, by omega⟩
 obtain ⟨cap', w1, hrun, hnew⟩ := wy (P := Tryz.prog) w 38 3 38 88 j0 A8 3 40 Tryz.underlying38 Tryz.underlying3 hj hy0 hy1 hy2 rfl (by omega) (by omega) (by omega) g i cap (jg a) hAl hatA k (by omega) (by omega) (by omega)
 rw [hk] at hrun
 obtain ⟨hc1, hc2, ⟨cur1, hg1, hs1, ht1⟩, k1⟩ := hnew
 obtain ⟨W, hW⟩ : ∃ W, W = w.heap.size := ⟨_, rfl⟩
 rw [← hW] at hg1 hrun hgl hql ⊢
 have hx1 : w1.heap[q]? = some (.cells (jg [c]).toArray 88 (0, 0)) := k1.same hx (fun h => h)
 have hsrc2 : ∀ j u, (jg [c])[j]? = some u → w1.cell? ((⟨q, 0, none⟩ : Addr).add j) = some u := Qc hx1 rfl
 have hki : (n : Int) + 1 - (i : Int) = (k : Int) := by omega
 have hwk : IntKind.i64.wrap ((n : Int) + 1 - (i : Int)) = (k : Int) := by rw [hki]; exact wrap_i64 (by omega) (by omega)
 have HCN := hide hcap
 have hw1 : IntKind.i64.wrap ((i : Int) + 1) = (i : Int) + 1 := wrap_i64 (by omega) (by omega)
 have hw2 : IntKind.i64.wrap ((n : Int) + 1) = (n : Int) + 1 := wrap_i64 (by omega) (by omega)
 have hz2 : ¬ ((i : Int) = (n : Int)) := by omega
 have hb1 : (0 : Int) ≤ (i : Int) + 1 := by omega
 have hin : i ≤ n := by omega
 have hin2 : (i : Int) ≤ (cap : Int) := by omega
 have htn : ((i : Int) + 1).toNat = i + 1 := by omega
 have htn2 : ((n : Int) + 1).toNat = n + 1 := by omega
 have hroom : (cap : Int) < (n : Int) + 1 := by omega
 have hb2 : ¬ (cap' = i + 1) := by omega
 have hb5 : ¬ (cap' = i) := by omega
 have hb6 : ¬ (cap = i) := by omega
 have hb3 : (i : Int) ≤ (n : Int) + 1 := by omega
 have hge : n + 1 ≤ cap' := by omega
 have hm1 : 1 = Nat.min 1 (n + 1 - i) := by show _ = min _ _; rw [Nat.min_def]; split <;> omega
 have hm2 : n - i = Nat.min (n - i) (n - i) := by show _ = min _ _; rw [Nat.min_def]; split <;> omega
 have hf1 : i * 3 + (jg [c]).length ≤ cur1.size := by rw [hs1, za]; simp only [List.length_cons, List.length_nil]; omega
 have HC2 := hide hc2
 have HM1 := hide hm1
 have HM2 := hide hm2
 have HF1 := hide hf1
 have HS2 := hide hsrc2
 have HG1 := hide hg1
 have HRUN := hide hrun
 have HAB := hide hatB
 have HBL := hide hBl
 have HB1 := hide hB1
 have HAL := hide hAl
 have HT1 := hide ht1
 have HSZ1 := hide hs1
 have HN := hide hn
 have HI := hide hi
 have HBB := hide hB
 have HK := hide hk
 have HG := hide hg
 have HW := hide hW
 clear hc1 hc2 hm1 hm2 hf1 hsrc2 hg1 hrun hatA hatB hBl hB1 hAl ht1 hs1 hn hi hB hk hg hx hx1 hL htake hcap hc40 hki hW hj hy0 hy1 hy2
 go_enter Tryz.func155, Tryz.ntmps155
 go_wp2_with (first
   | (at_builtin; go_must (refine Lib.wpList_append_run _ rfl (.tmp 34) (.tmp 39) 38 3 rfl _ _ rfl rfl _ _ HRUN.out ?_))
   | (refine vg rfl (.tmp 43) (.tmp 44) 38 38 rfl 88 3 Tryz.underlying38 hsz.out W (i * 3) (n + 1 - i) (cap' - i) ⟨q, 0, none⟩ 1 1 rfl rfl cur1 88 HG1.out (jg [c]) 1 HM1.out rfl HS2.out HF1.out (tu [c]) ?_; intro w2 hc2))
 obtain ⟨hg2, k2⟩ := hc2
 obtain ⟨cur2, e2⟩ : ∃ cur2 : Array Value, cur2.toList = jg a ++ jg [c] ++ cur1.toList.drop (i * 3 + 3) := ⟨(jg a ++ jg [c] ++ cur1.toList.drop (i * 3 + 3)).toArray, rfl⟩
 have hg2' : w2.heap[W]? = some (.cells cur2 88 (0, 0)) := by
   rw [hg2, HT1.out, show (jg [c]).length = 3 from rfl, ← e2]
 have hlen2 : cur2.size = cap' * 3 := by
   have h3 := congrArg List.length e2
   rw [List.length_append, List.length_append, List.length_drop, HAL.out, show (jg [c]).length = 3 from rfl] at h3
   simp only [Array.length_toList, HSZ1.out] at h3
   omega
 have hsrc3 : ∀ j u, B[j]? = some u → w2.drew.cell? ((⟨g, i * 3, none⟩ : Addr).add j) = some u := by
   intro j u hu
   rw [X7]
   exact k2.cell (k1.cell (HAB.out j u hu) (fun h => h)) (Nat.ne_of_lt hgl)
 have hf3 : (i + 1) * 3 + B.length ≤ cur2.size := by rw [hlen2, HBL.out]; omega
 have HG2 := hide hg2'
 have HL2 := hide hlen2
 have HS3 := hide hsrc3
 have HF3 := hide hf3
 have HE2 := hide e2
 clear hg2 hg2' hlen2 hsrc3 hf3 e2
 go_region_law (refine Dr rfl (.tmp 50) (.tmp 53) 38 38 rfl 88 3 Tryz.underlying38 hsz.out W ((i + 1) * 3) (n - i) (cap' - (i + 1)) ⟨g, i * 3, none⟩ (n - i) (cap - i) (by simp [Act.eval, Act.put]) (by simp [Act.eval, Act.put]) cur2 88 HG2.out B (n - i) HM2.out HBL.out HS3.out HF3.out HB1.out ?_; intro w3 hc3)
 go_wp2
 go_ret
 obtain ⟨hg3, k3⟩ := hc3
 have ht : cur2.toList.take ((i + 1) * 3) = jg a ++ jg [c] := by
   rw [HE2.out]
   have : (i + 1) * 3 = (jg a ++ jg [c]).length := by rw [List.length_append, HAL.out, show (jg [c]).length = 3 from rfl]; omega
   rw [this]
   exact List.take_left
 refine ⟨cap', rfl, hge, HC2.out, ⟨_, hg3, ?_, ?_⟩, (((k1.trans k2 (fun j hj e => absurd (HW.out ▸ hj) (by rw [e]; exact Nat.lt_irrefl _))).draw).trans k3 (fun j hj e => absurd (HW.out ▸ hj) (by rw [e]; exact Nat.lt_irrefl _)))⟩
 · have h1 := HF3.out
   have h2 := HL2.out
   rw [List.size_toArray, List.length_append, List.length_append, List.length_drop, List.length_take, Array.length_toList]
   omega
 · show List.take _ (List.take ((i + 1) * 3) cur2.toList ++ B ++ _) = _
   rw [ht, show a ++ c :: y :: b = a ++ ([c] ++ (y :: b)) from rfl, Jw, Jw, ← HBB.out]
   have e3 : (n + 1) * 3 = (jg a ++ (jg [c] ++ B)).length := by
     rw [List.length_append, List.length_append, HAL.out, HBL.out, show (jg [c]).length = 3 from rfl]
     omega
   rw [e3, List.append_assoc (jg a)]
   exact List.take_left
theorem jag (v : Value) (a b : List Ref.Ch) (c : Ref.Ch) (base q : Nat) (w : World) (hl : (a ++ b).length < 1048576) (hbase : base ≤ w.heap.size) (hown : w.ownsRow base 88 3 v (a ++ b).length (jg (a ++ b))) (hx : One w q c) (hne : v.ownBlock ≠ some q) :
   Calls Tryz.prog 155 #[v, .int .i64 a.length, .slice (some ⟨q, 0, none⟩) 1 1] w fun e w' =>
     ∃ v', e = .returned v' ∧ w'.ownsRow base 88 3 v' (a ++ c :: b).length (jg (a ++ c :: b)) ∧ Grown w v w' v' := by
 cases b with
 | nil =>
   rw [List.append_nil] at hl hown
   refine (jaf v a c base q w hl hbase hown hx).mono ?_
   rintro e w' ⟨v', rfl, h1, h2⟩
   exact ⟨v', rfl, by rw [List.length_append]; exact h1, h2⟩
 | cons y b =>
   rcases hown.2 with ⟨rfl, h0⟩ | ⟨g, cap, cur, rfl, hbg, hgg, h1, h2, h3, h4⟩
   · simp at h0
   · have hnn : (a ++ y :: b).length = a.length + (b.length + 1) := by simp
     have hll : (a ++ c :: y :: b).length = (a ++ y :: b).length + 1 := by simp only [List.length_append, List.length_cons]; omega
     have hcl : (jg (a ++ c :: y :: b)).length = ((a ++ y :: b).length + 1) * 3 := by rw [za, hll]
     rw [hll]
     rcases Nat.lt_or_ge (a ++ y :: b).length cap with hlt | hge
     · refine (U7 g cap a y b c q _ cur w hnn hlt h2 hgg h3 h4 hx (fun e => hne (by rw [e]; rfl))).mono ?_
       rintro e w' ⟨rfl, ⟨cur', hg', hs', ht'⟩, k'⟩
       exact ⟨_, rfl, ⟨hcl, .inr ⟨g, cap, cur', rfl, hbg, hg', hlt, h2, hs', ht'⟩⟩, .inl rfl, k'.mono (fun i _ e => by rw [e]; rfl)⟩
     · refine (U8 g cap a y b c q _ cur w hnn (Nat.le_antisymm hge h1) hl hgg h4 hx).mono ?_
       rintro e w' ⟨cap', rfl, hc1, hc2, ⟨cur', hg', hs', ht'⟩, k'⟩
       exact ⟨_, rfl, ⟨hcl, .inr ⟨w.heap.size, cap', cur', rfl, hbase, hg', hc1, hc2, hs', ht'⟩⟩, .inr ⟨_, rfl, Nat.le_refl _⟩, k'.mono (fun _ _ h => h.elim)⟩
end Go.Proofs.YtnipbplghijdmaaGreatDoor
