/-
  Pa: Run2 ManRead.
-/
import Derived.Test.YtnipbplghijdmaaGreatDoorPa01
namespace Go.Proofs.YtnipbplghijdmaaGreatDoor.Ref
set_option linter.unusedVariables false
def ahead (ps : List (Nat × List UInt8)) (k : List UInt8) : Nat := (ps.takeWhile (fun p => decide (p.2 < k))).length
def seekOf (ps : List (Nat × List UInt8)) (k : List UInt8) : Nat :=
 if (ps[ahead ps k]?).map Prod.snd = some k then ahead ps k else ahead ps k - 1
def notBelow (k : List UInt8) (c : Ch) : Bool := decide (¬ c.key < k)
def Parted (ps : List (Nat × List UInt8)) (k : List UInt8) : Prop := ∀ i p, ahead ps k ≤ i → ps[i]? = some p → ¬ p.2 < k
theorem ahead_le (ps : List (Nat × List UInt8)) (k : List UInt8) : ahead ps k ≤ ps.length := by
 have := (List.takeWhile_sublist (fun p : Nat × List UInt8 => decide (p.2 < k)) (l := ps)).length_le
 exact this
theorem ahead_lt {ps : List (Nat × List UInt8)} {k : List UInt8} {i : Nat} {p : Nat × List UInt8} (h : i < ahead ps k) (hp : ps[i]? = some p) : p.2 < k := by
 unfold ahead at h
 induction ps generalizing i with
 | nil => simp at h
 | cons x r ih =>
   by_cases hx : x.2 < k
   · rw [List.takeWhile_cons_of_pos (by simpa using hx), List.length_cons] at h
     cases i with
     | zero => cases hp; exact hx
     | succ i => exact ih (by omega) hp
   · rw [List.takeWhile_cons_of_neg (by simpa using hx)] at h
     simp at h
theorem ahead_not {ps : List (Nat × List UInt8)} {k : List UInt8} {p : Nat × List UInt8} (hp : ps[ahead ps k]? = some p) : ¬ p.2 < k := by
 unfold ahead at hp
 induction ps with
 | nil => simp at hp
 | cons x r ih =>
   by_cases hx : x.2 < k
   · rw [List.takeWhile_cons_of_pos (by simpa using hx), List.length_cons] at hp
     exact ih hp
   · rw [List.takeWhile_cons_of_neg (by simpa using hx)] at hp
     cases hp
     exact hx
theorem Laid.order {bl : List (List Ch)} (h : Laid bl) {i j : Nat} {a b : List Ch} (ha : bl[i]? = some a) (hb : bl[j]? = some b) (hij : i < j) : ∀ x ∈ a, ∀ y ∈ b, x.key < y.key := by
 have hj := (List.getElem?_eq_some_iff.1 hb).1
 have hr := h.rising
 rw [← List.take_append_drop (i + 1) bl, List.flatten_append] at hr
 unfold Rising at hr
 rw [List.pairwise_append] at hr
 intro x hx y hy
 refine hr.2.2 x (List.mem_flatten.2 ⟨a, ?_, hx⟩) y (List.mem_flatten.2 ⟨b, ?_, hy⟩)
 · rw [List.take_add_one, ha]; simp
 · refine List.mem_of_getElem? (i := j - (i + 1)) ?_
   rw [List.getElem?_drop, show i + 1 + (j - (i + 1)) = j by omega]
   exact hb
theorem firstKey_mem {b : List Ch} (h : 1 ≤ b.length) : ∃ c ∈ b, firstKey b = c.key := by
 cases b with
 | nil => simp at h
 | cons c r => exact ⟨c, List.mem_cons_self, rfl⟩
theorem Laid.parted {bl : List (List Ch)} (h : Laid bl) (k : List UInt8) : Parted (placeList 0 bl) k := by
 intro i p hi hp
 have h1 : i < (placeList 0 bl).length := (List.getElem?_eq_some_iff.1 hp).1
 have h0 : ahead (placeList 0 bl) k < (placeList 0 bl).length := by omega
 obtain ⟨q, hq⟩ : ∃ q, (placeList 0 bl)[ahead (placeList 0 bl) k]? = some q := ⟨_, List.getElem?_eq_getElem h0⟩
 have hn := ahead_not hq
 by_cases e : ahead (placeList 0 bl) k = i
 · rw [e, hp] at hq
   cases hq
   exact hn
 · intro hlt
   rw [placeList_length] at h1 h0
   rw [placeList_at, List.getElem?_eq_getElem h0] at hq
   rw [placeList_at, List.getElem?_eq_getElem h1] at hp
   cases hq; cases hp
   obtain ⟨x, hx, ex⟩ := firstKey_mem (h.len _ (List.getElem_mem h0)).1
   obtain ⟨y, hy, ey⟩ := firstKey_mem (h.len _ (List.getElem_mem h1)).1
   have := h.order (List.getElem?_eq_getElem h0) (List.getElem?_eq_getElem h1) (by omega) x hx y hy
   simp only at hn hlt
   rw [ex] at hn
   rw [ey] at hlt
   exact hn (List.lt_trans this hlt)
theorem Laid.skipped {bl : List (List Ch)} (h : Laid bl) (k : List UInt8) : ∀ c ∈ (bl.take (seekOf (placeList 0 bl) k)).flatten, c.key < k := by
 intro c hc
 obtain ⟨b, hb, hcb⟩ := List.mem_flatten.1 hc
 obtain ⟨j, hj, e⟩ := List.getElem_of_mem hb
 rw [List.length_take] at hj
 rw [List.getElem_take] at e
 have hle := ahead_le (placeList 0 bl) k
 rw [placeList_length] at hle
 have hbj : bl[j]? = some b := by rw [List.getElem?_eq_getElem (by omega), e]
 unfold seekOf at hj
 split at hj
 · rename_i hf
   have hn : ahead (placeList 0 bl) k < bl.length := by
     rcases Nat.lt_or_ge (ahead (placeList 0 bl) k) bl.length with h1 | h1
     · exact h1
     · rw [List.getElem?_eq_none_iff.2 (by rw [placeList_length]; omega)] at hf; cases hf
   rw [placeList_at, List.getElem?_eq_getElem hn] at hf
   simp at hf
   obtain ⟨x, hx, ex⟩ := firstKey_mem (h.len _ (List.getElem_mem hn)).1
   rw [ex] at hf
   rw [← hf]
   exact h.order hbj (List.getElem?_eq_getElem hn) (by omega) c hcb x hx
 · have hn : ahead (placeList 0 bl) k - 1 < bl.length := by omega
   have h2 := ahead_lt (ps := placeList 0 bl) (k := k) (i := ahead (placeList 0 bl) k - 1) (by omega) (by rw [placeList_at, List.getElem?_eq_getElem hn]; rfl)
   obtain ⟨x, hx, ex⟩ := firstKey_mem (h.len _ (List.getElem_mem hn)).1
   simp only at h2
   rw [ex] at h2
   exact List.lt_trans (h.order hbj (List.getElem?_eq_getElem hn) (by omega) c hcb x hx) h2
def readNum (l : List UInt8) : Option (Nat × List UInt8) := if 8 ≤ l.length ∧ number (l.take 8) ≤ 2000000000 then some (number (l.take 8), l.drop 8) else none
def readNums : Nat → List UInt8 → Option (List Nat × List UInt8)
 | 0, l => some ([], l)
 | n + 1, l =>
   match readNum l with
   | none => none
   | some (x, q) =>
     match readNums n q with
     | none => none
     | some (xs, q') => some (x :: xs, q')
theorem readNums_iff {n : Nat} {l q : List UInt8} {xs : List Nat} : readNums n l = some (xs, q) ↔ 8 * n ≤ l.length ∧ xs = numbers8 n l ∧ q = l.drop (8 * n) ∧ ∀ x ∈ xs, x ≤ 2000000000 := by
 induction n generalizing l xs q with
 | zero =>
   simp only [readNums, numbers8, Nat.mul_zero, List.drop_zero, Nat.zero_le, true_and, Option.some.injEq, Prod.mk.injEq]
   constructor
   · rintro ⟨rfl, rfl⟩; exact ⟨rfl, rfl, fun x hx => by cases hx⟩
   · rintro ⟨rfl, rfl, _⟩; exact ⟨rfl, rfl⟩
 | succ n ih =>
   unfold readNums readNum
   by_cases hc : 8 ≤ l.length ∧ number (l.take 8) ≤ 2000000000
   · rw [if_pos hc]
     simp only
     cases h : readNums n (l.drop 8) with
     | none =>
       simp only [reduceCtorEq, false_iff]
       rintro ⟨h1, rfl, rfl, h2⟩
       have : readNums n (l.drop 8) = some (numbers8 n (l.drop 8), (l.drop 8).drop (8 * n)) := ih.2 ⟨by simp; omega, rfl, rfl, fun x hx => h2 x (by rw [numbers8]; exact List.mem_cons_of_mem _ hx)⟩
       rw [h] at this
       cases this
     | some y =>
       obtain ⟨ys, q'⟩ := y
       obtain ⟨h1, h2, h3, h4⟩ := ih.1 h
       simp only [Option.some.injEq, Prod.mk.injEq]
       constructor
       · rintro ⟨rfl, rfl⟩
         refine ⟨by simp at h1; omega, by rw [numbers8, h2], by rw [h3, List.drop_drop]; congr 1; omega, fun x hx => ?_⟩
         rcases List.mem_cons.1 hx with rfl | hx
         · exact hc.2
         · exact h4 x hx
       · rintro ⟨_, rfl, rfl, _⟩
         exact ⟨by rw [numbers8, h2], by rw [h3, List.drop_drop]; congr 1; omega⟩
   · rw [if_neg hc]
     simp only [reduceCtorEq, false_iff]
     rintro ⟨h1, rfl, rfl, h2⟩
     exact hc ⟨by omega, h2 _ (by rw [numbers8]; exact List.mem_cons_self)⟩
def readFields (l : List UInt8) : Option Man :=
 match readNums 4 l with
 | some ([a, b, c, d], q) =>
   if 2 ≤ q.length then
     match readNums (number (q.take 2)) (q.drop 2) with
     | some (rs, []) => some ⟨a, b, c, d, rs⟩
     | _ => none
   else none
 | _ => none
def manOf (l : List UInt8) : Option Man :=
 match takeFrame l with
 | some (h, []) =>
   match readFields h with
   | some m => if m.Good then some m else none
   | none => none
 | _ => none
theorem numbers8_four (l : List UInt8) : numbers8 4 l = [number (l.take 8), number ((l.drop 8).take 8), number ((l.drop 16).take 8), number ((l.drop 24).take 8)] := by
 simp [numbers8, List.drop_drop]
theorem readFields_some {h : List UInt8} {m : Man} (e : readFields h = some m) : 34 ≤ h.length ∧ h.length = 34 + 8 * number ((h.drop 32).take 2) ∧
   m = ⟨number (h.take 8), number ((h.drop 8).take 8), number ((h.drop 16).take 8), number ((h.drop 24).take 8), numbers8 (number ((h.drop 32).take 2)) (h.drop 34)⟩ ∧ m.next ≤ 2000000000 ∧ m.last ≤ 2000000000 := by
 unfold readFields at e
 cases h4 : readNums 4 h with
 | none => rw [h4] at e; cases e
 | some y =>
   obtain ⟨xs, q⟩ := y
   obtain ⟨a1, a2, a3, a4⟩ := readNums_iff.1 h4
   rw [numbers8_four] at a2
   subst a2
   rw [h4] at e
   simp only at e
   split at e
   · rename_i h2
     cases hr : readNums (number (q.take 2)) (q.drop 2) with
     | none => rw [hr] at e; cases e
     | some z =>
       obtain ⟨rs, q'⟩ := z
       rw [hr] at e
       cases q' with
       | cons _ _ => cases e
       | nil =>
         simp only [Option.some.injEq] at e
         obtain ⟨b1, b2, b3, b4⟩ := readNums_iff.1 hr
         subst a3
         have hd : (h.drop 32).drop 2 = h.drop 34 := by rw [List.drop_drop]
         have hz := congrArg List.length b3
         simp at a1 h2 b1 hz
         refine ⟨by omega, by omega, ?_, ?_, ?_⟩
         · rw [← e, b2, hd]
         · rw [← e]; exact a4 _ List.mem_cons_self
         · rw [← e]; exact a4 _ (List.mem_cons_of_mem _ List.mem_cons_self)
   · cases e
theorem manOf_eq (l : List UInt8) : manOf l = readMan l := by
 unfold manOf readMan
 cases hf : takeFrame l with
 | none => rfl
 | some y =>
   obtain ⟨h, q⟩ := y
   cases q with
   | cons a b => simp
   | nil =>
     simp only [true_and]
     cases hr : readFields h with
     | some m =>
       obtain ⟨h1, h2, h3, _, _⟩ := readFields_some hr
       rw [if_pos ⟨h1, h2⟩]
       simp only [← h3]
     | none =>
       simp only
       by_cases hc : 34 ≤ h.length ∧ h.length = 34 + 8 * number ((h.drop 32).take 2)
       · rw [if_pos hc]
         by_cases hg : Man.Good ⟨number (h.take 8), number ((h.drop 8).take 8), number ((h.drop 16).take 8), number ((h.drop 24).take 8), numbers8 (number ((h.drop 32).take 2)) (h.drop 34)⟩
         · exfalso
           obtain ⟨g1, g2, g3, g4⟩ := hg
           simp only at g1 g2
           have hnum : ∀ n ∈ Man.numbers ⟨number (h.take 8), number ((h.drop 8).take 8), number ((h.drop 16).take 8), number ((h.drop 24).take 8), numbers8 (number ((h.drop 32).take 2)) (h.drop 34)⟩, n ≤ 2000000000 := fun n hn => by have := (g3 n hn).2; simp only at this; omega
           have hlog := hnum (number ((h.drop 16).take 8)) (by simp [Man.numbers])
           have hbase : number ((h.drop 24).take 8) ≤ 2000000000 := by
             by_cases hb : number ((h.drop 24).take 8) = 0
             · omega
             · exact hnum _ (by simp [Man.numbers, Man.settled, hb])
           have hruns : ∀ n ∈ numbers8 (number ((h.drop 32).take 2)) (h.drop 34), n ≤ 2000000000 := fun n hn => hnum n (by unfold Man.numbers Man.settled; split <;> simp [hn])
           have e4 : readNums 4 h = some ([number (h.take 8), number ((h.drop 8).take 8), number ((h.drop 16).take 8), number ((h.drop 24).take 8)], h.drop 32) := readNums_iff.2 ⟨by omega, (numbers8_four h).symm, rfl, by
             intro x hx
             simp only [List.mem_cons, List.not_mem_nil, or_false] at hx
             rcases hx with rfl | rfl | rfl | rfl
             · exact g1
             · omega
             · exact hlog
             · exact hbase⟩
           have hd : (h.drop 32).drop 2 = h.drop 34 := by rw [List.drop_drop]
           have e5 : readNums (number ((h.drop 32).take 2)) ((h.drop 32).drop 2) = some (numbers8 (number ((h.drop 32).take 2)) (h.drop 34), []) := readNums_iff.2 ⟨by simp; omega, by rw [hd], by rw [hd, List.drop_drop]; exact (List.drop_of_length_le (by omega)).symm, hruns⟩
           unfold readFields at hr
           rw [e4] at hr
           simp only at hr
           rw [if_pos (by simp; omega), e5] at hr
           cases hr
         · rw [if_neg hg]
       · rw [if_neg hc]
end Go.Proofs.YtnipbplghijdmaaGreatDoor.Ref
