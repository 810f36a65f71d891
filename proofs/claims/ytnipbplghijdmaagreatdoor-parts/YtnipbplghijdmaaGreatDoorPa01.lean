/-
  Pa: RefA Plain Parse Merge Heap Run.
-/
import Derived.ProofKit
namespace Go.Proofs.YtnipbplghijdmaaGreatDoor.Ref
set_option linter.unusedVariables false
def big (n : Nat) : Nat → List UInt8
 | 0 => []
 | m + 1 => big (n / 256) m ++ [UInt8.ofNat (n % 256)]
theorem big_length (n m : Nat) : (big n m).length = m := by
 induction m generalizing n with
 | zero => rfl
 | succ m ih => simp [big, ih]
def decimal (n : Nat) : List UInt8 := if h : n < 10 then [UInt8.ofNat (48 + n)] else decimal (n / 10) ++ [UInt8.ofNat (48 + n % 10)]
def bit (c : Nat) : Nat := if c % 2 = 1 then (c / 2) ^^^ 2197175160 else c / 2
def bits : Nat → Nat → Nat
 | 0, c => c
 | k + 1, c => bits k (bit c)
def sumByte (c : Nat) (x : UInt8) : Nat := bits 8 (c ^^^ x.toNat)
def sum (l : List UInt8) : Nat := 4294967295 - l.foldl sumByte 4294967295
def frame (l : List UInt8) : List UInt8 := big l.length 4 ++ big (sum l) 4 ++ l
structure Ch where
 key : List UInt8
 value : List UInt8
 gone : Bool
def text (l : List UInt8) : List UInt8 := big l.length 1 ++ l
def entry (c : Ch) : List UInt8 := if c.gone then 2 :: text c.key else 1 :: (text c.key ++ text c.value)
def logBytes : Nat → List (List Ch) → List UInt8
 | _, [] => []
 | last, b :: r => frame (big (last + 1) 8 ++ big b.length 1 ++ b.flatMap entry) ++ logBytes (last + 1) r
def manifest (next last log base : Nat) (runs : List Nat) : List UInt8 := frame (big next 8 ++ big last 8 ++ big log 8 ++ big base 8 ++ big runs.length 2 ++ runs.flatMap fun r => big r 8)
def number (l : List UInt8) : Nat := l.foldl (fun n x => n * 256 + x.toNat) 0
theorem number_snoc (l : List UInt8) (x : UInt8) : number (l ++ [x]) = number l * 256 + x.toNat := by simp [number, List.foldl_append]
theorem number_big (n m : Nat) (h : n < 256 ^ m) : number (big n m) = n := by
 induction m generalizing n with
 | zero => simp at h; subst h; rfl
 | succ m ih =>
   have h1 : n / 256 < 256 ^ m := by rw [Nat.div_lt_iff_lt_mul (by omega)]; rw [Nat.pow_succ] at h; exact h
   rw [big, number_snoc, ih _ h1]
   have h2 : (UInt8.ofNat (n % 256)).toNat = n % 256 := by simp [UInt8.toNat_ofNat']
   rw [h2]
   omega
theorem number_lt (l : List UInt8) : number l < 256 ^ l.length := by
 have H : ∀ (l : List UInt8) (n : Nat), l.foldl (fun n x => n * 256 + x.toNat) n < (n + 1) * 256 ^ l.length := by
   intro l
   induction l with
   | nil => intro n; simp
   | cons x r ih =>
     intro n
     have hx : x.toNat < 256 := x.toNat_lt
     have h1 := ih (n * 256 + x.toNat)
     have h2 : n * 256 + x.toNat + 1 ≤ (n + 1) * 256 := by omega
     calc (x :: r).foldl (fun n x => n * 256 + x.toNat) n = r.foldl (fun n x => n * 256 + x.toNat) (n * 256 + x.toNat) := rfl
       _ < (n * 256 + x.toNat + 1) * 256 ^ r.length := h1
       _ ≤ ((n + 1) * 256) * 256 ^ r.length := Nat.mul_le_mul_right _ h2
       _ = (n + 1) * 256 ^ (x :: r).length := by rw [List.length_cons, Nat.pow_succ, Nat.mul_assoc, Nat.mul_comm 256]
 have := H l 0
 simpa [number] using this
theorem big_number : ∀ (k : Nat) (l : List UInt8), l.length = k → big (number l) k = l := by
 intro k
 induction k with
 | zero => intro l hl; rw [List.eq_nil_of_length_eq_zero hl]; rfl
 | succ k ih =>
   intro l hl
   have hne : l ≠ [] := fun e => by rw [e] at hl; simp at hl
   have e : l = l.dropLast ++ [l.getLast hne] := (List.dropLast_concat_getLast hne).symm
   have hl' : l.dropLast.length = k := by simp [hl]
   have hx : (l.getLast hne).toNat < 256 := (l.getLast hne).toNat_lt
   have hn : number l = number l.dropLast * 256 + (l.getLast hne).toNat := by rw [← number_snoc, ← e]
   have h1 : number l / 256 = number l.dropLast := by rw [hn]; omega
   have h2 : number l % 256 = (l.getLast hne).toNat := by rw [hn]; omega
   rw [big, h1, h2, ih _ hl']
   conv => rhs; rw [e]
   simp
def takeFrame (l : List UInt8) : Option (List UInt8 × List UInt8) :=
 if 8 ≤ l.length ∧ 8 + number (l.take 4) ≤ l.length ∧ sum ((l.drop 8).take (number (l.take 4))) = number ((l.drop 4).take 4) then some ((l.drop 8).take (number (l.take 4)), l.drop (8 + number (l.take 4))) else none
theorem sum_lt (l : List UInt8) : sum l < 256 ^ 4 := by
 unfold sum
 omega
theorem takeFrame_frame (l r : List UInt8) (h : l.length < 256 ^ 4) : takeFrame (frame l ++ r) = some (l, r) := by
 have h4 : (big l.length 4).length = 4 := big_length _ _
 have h5 : (big (sum l) 4).length = 4 := big_length _ _
 have e1 : (frame l ++ r).take 4 = big l.length 4 := by
   unfold frame
   rw [List.append_assoc, List.append_assoc, List.take_append_of_le_length (by omega), List.take_of_length_le (by omega)]
 have e2 : ((frame l ++ r).drop 4).take 4 = big (sum l) 4 := by
   unfold frame
   rw [List.append_assoc, List.append_assoc, List.drop_append_of_le_length (by omega), List.drop_of_length_le (by omega), List.nil_append, List.take_append_of_le_length (by omega), List.take_of_length_le (by omega)]
 have e3 : (frame l ++ r).drop 8 = l ++ r := by
   unfold frame
   rw [List.append_assoc]
   have : (big l.length 4 ++ big (sum l) 4).length = 8 := by simp [h4, h5]
   rw [List.drop_append_of_le_length (by omega), List.drop_of_length_le (by omega), List.nil_append]
 have e4 : (frame l ++ r).length = 8 + l.length + r.length := by unfold frame; simp [h4, h5]; omega
 unfold takeFrame
 rw [e1, e2, e3, number_big _ _ h, number_big _ _ (sum_lt l), e4]
 have h6 : (l ++ r).take l.length = l := by simp
 rw [h6]
 rw [if_pos ⟨by omega, by omega, rfl⟩]
 have h7 : (frame l ++ r).drop (8 + l.length) = r := by
   rw [← List.drop_drop, e3]; simp
 rw [h7]
theorem frame_of_take {l b r : List UInt8} (h : takeFrame l = some (b, r)) : l = frame b ++ r := by
 unfold takeFrame at h
 split at h
 · rename_i hc
   obtain ⟨h1, h2, h3⟩ := hc
   cases h
   have hl : ((l.drop 8).take (number (l.take 4))).length = number (l.take 4) := by simp; omega
   unfold frame
   rw [hl, h3, big_number 4 (l.take 4) (by simp; omega), big_number 4 ((l.drop 4).take 4) (by simp; omega)]
   have a1 : l.take 4 ++ (l.drop 4).take 4 = l.take 8 := by rw [← List.take_add]
   rw [a1, List.append_assoc]
   have a2 : (l.drop 8).take (number (l.take 4)) ++ l.drop (8 + number (l.take 4)) = l.drop 8 := by rw [← List.drop_drop, List.take_append_drop]
   rw [a2, List.take_append_drop]
 · cases h
def Rising (l : List Ch) : Prop := l.Pairwise (fun a b => a.key < b.key)
def ins (c : Ch) : List Ch → List Ch
 | [] => [c]
 | x :: r => if c.key < x.key then c :: x :: r else if x.key = c.key then c :: r else x :: ins c r
theorem mem_ins {c x : Ch} {l : List Ch} (h : x ∈ ins c l) : x = c ∨ x ∈ l := by
 induction l with
 | nil => simp [ins] at h; exact .inl h
 | cons y r ih =>
   unfold ins at h
   split at h
   · rcases List.mem_cons.1 h with h | h
     · exact .inl h
     · exact .inr h
   · split at h
     · rcases List.mem_cons.1 h with h | h
       · exact .inl h
       · exact .inr (List.mem_cons_of_mem _ h)
     · rcases List.mem_cons.1 h with h | h
       · exact .inr (h ▸ List.mem_cons_self)
       · rcases ih h with h | h
         · exact .inl h
         · exact .inr (List.mem_cons_of_mem _ h)
theorem rising_ins {c : Ch} {l : List Ch} (h : Rising l) : Rising (ins c l) := by
 induction l with
 | nil => simp [ins, Rising]
 | cons x r ih =>
   have h' := h
   unfold Rising at h
   rw [List.pairwise_cons] at h
   obtain ⟨h1, h2⟩ := h
   unfold ins
   split
   · rename_i hlt
     refine List.pairwise_cons.2 ⟨fun y hy => ?_, h'⟩
     rcases List.mem_cons.1 hy with rfl | hy
     · exact hlt
     · exact List.lt_trans hlt (h1 y hy)
   · split
     · rename_i _ he
       exact List.pairwise_cons.2 ⟨fun y hy => he ▸ h1 y hy, h2⟩
     · rename_i hn he
       refine List.pairwise_cons.2 ⟨fun y hy => ?_, ih h2⟩
       rcases mem_ins hy with rfl | hy
       · rcases Std.lt_trichotomy x.key y.key with h | h | h
         · exact h
         · exact absurd h he
         · exact absurd h hn
       · exact h1 y hy
def putStep (c : Ch) (s : List Ch × Bool) (x : Ch) : List Ch × Bool :=
 let s1 := if s.2 = false ∧ ¬ x.key < c.key then (s.1 ++ [c], true) else s
 if x.key ≠ c.key then (s1.1 ++ [x], s1.2) else s1
def putEnd (c : Ch) (s : List Ch × Bool) : List Ch := if s.2 = false then s.1 ++ [c] else s.1
def put (l : List Ch) (c : Ch) : List Ch := putEnd c (l.foldl (putStep c) ([], false))
theorem putStep_done {c : Ch} {l out : List Ch} (h : ∀ x ∈ l, x.key ≠ c.key) : l.foldl (putStep c) (out, true) = (out ++ l, true) := by
 induction l generalizing out with
 | nil => simp
 | cons x r ih =>
   have hx := h x List.mem_cons_self
   rw [List.foldl_cons]
   have e : putStep c (out, true) x = (out ++ [x], true) := by simp [putStep, hx]
   rw [e, ih (fun y hy => h y (List.mem_cons_of_mem _ hy))]
   simp
theorem putStep_ins {c : Ch} {l out : List Ch} (h : Rising l) : putEnd c (l.foldl (putStep c) (out, false)) = out ++ ins c l := by
 induction l generalizing out with
 | nil => simp [ins, putEnd]
 | cons x r ih =>
   unfold Rising at h
   rw [List.pairwise_cons] at h
   obtain ⟨h1, h2⟩ := h
   rw [List.foldl_cons]
   unfold ins
   by_cases hlt : c.key < x.key
   · have hn : ¬ x.key < c.key := List.lt_asymm hlt
     have hne : x.key ≠ c.key := fun e => List.lt_irrefl x.key (by rw [e] at hlt; exact absurd hlt (List.lt_irrefl _))
     have e : putStep c (out, false) x = (out ++ [c] ++ [x], true) := by simp [putStep, hn, hne]
     rw [e, putStep_done (fun y hy e => by have := List.lt_trans hlt (h1 y hy); rw [e] at this; exact List.lt_irrefl _ this), if_pos hlt]
     simp [putEnd]
   · rw [if_neg hlt]
     by_cases he : x.key = c.key
     · rw [if_pos he]
       have hn : ¬ x.key < c.key := by rw [he]; exact List.lt_irrefl _
       have e : putStep c (out, false) x = (out ++ [c], true) := by simp [putStep, he]
       rw [e, putStep_done (fun y hy e => List.lt_irrefl c.key (by have := h1 y hy; rw [he, e] at this; exact this))]
       simp [putEnd]
     · rw [if_neg he]
       have hx : x.key < c.key := by
         rcases Std.lt_trichotomy x.key c.key with h | h | h
         · exact h
         · exact absurd h he
         · exact absurd h hlt
       have e : putStep c (out, false) x = (out ++ [x], false) := by simp [putStep, hx, he]
       rw [e, ih h2]
       simp
theorem put_ins {c : Ch} {l : List Ch} (h : Rising l) : put l c = ins c l := by
 have := putStep_ins (c := c) (out := []) h
 simpa [put] using this
def below (l : List Ch) (k : List UInt8) : Nat := (l.takeWhile (fun x => decide (x.key < k))).length
def insAt (c : Ch) (l : List Ch) : List Ch :=
 if (l[below l c.key]?).map Ch.key = some c.key then l.set (below l c.key) c else l.take (below l c.key) ++ c :: l.drop (below l c.key)
theorem insAt_ins {c : Ch} {l : List Ch} (h : Rising l) : insAt c l = ins c l := by
 induction l with
 | nil => simp [insAt, ins, below]
 | cons x r ih =>
   unfold Rising at h
   rw [List.pairwise_cons] at h
   obtain ⟨h1, h2⟩ := h
   by_cases hx : x.key < c.key
   · have hb : below (x :: r) c.key = below r c.key + 1 := by simp [below, hx]
     have e : insAt c (x :: r) = x :: insAt c r := by
       unfold insAt
       rw [hb]
       simp only [List.getElem?_cons_succ, List.set_cons_succ, List.take_succ_cons, List.drop_succ_cons, List.cons_append]
       split <;> rfl
     rw [e, ih h2]
     have hn : ¬ c.key < x.key := List.lt_asymm hx
     have hne : x.key ≠ c.key := fun e => by rw [e] at hx; exact List.lt_irrefl _ hx
     simp [ins, hn, hne]
   · have hb : below (x :: r) c.key = 0 := by simp [below, hx]
     unfold insAt
     rw [hb]
     by_cases he : x.key = c.key
     · have hn : ¬ c.key < x.key := by rw [he]; exact List.lt_irrefl _
       simp [ins, he]
     · have hc : c.key < x.key := by
         rcases Std.lt_trichotomy x.key c.key with h | h | h
         · exact absurd h hx
         · exact absurd h he
         · exact h
       simp [ins, hc, he]
def over (l more : List Ch) : List Ch := more.foldl (fun l c => put l c) l
def there (l : List Ch) : List Ch := l.filter (fun c => !c.gone)
theorem over_rising {l more : List Ch} (h : Rising l) : Rising (over l more) := by
 induction more generalizing l with
 | nil => exact h
 | cons c r ih =>
   have e : over l (c :: r) = over (put l c) r := rfl
   rw [e]
   exact ih (by rw [put_ins h]; exact rising_ins h)
theorem over_snoc (l more : List Ch) (c : Ch) : over l (more ++ [c]) = put (over l more) c := by simp [over, List.foldl_append]
theorem ins_last {l : List Ch} {c : Ch} (h : ∀ x ∈ l, x.key < c.key) : ins c l = l ++ [c] := by
 induction l with
 | nil => rfl
 | cons x r ih =>
   have hx := h x List.mem_cons_self
   have hn : ¬ c.key < x.key := List.lt_asymm hx
   have hne : x.key ≠ c.key := fun e => by rw [e] at hx; exact List.lt_irrefl _ hx
   simp [ins, hn, hne, ih (fun y hy => h y (List.mem_cons_of_mem _ hy))]
theorem over_nil {l : List Ch} (h : Rising l) : over [] l = l := by
 have H : ∀ (b a : List Ch), Rising (a ++ b) → over a b = a ++ b := by
   intro b
   induction b with
   | nil => intro a _; simp [over]
   | cons c r ih =>
     intro a hr
     have e : over a (c :: r) = over (put a c) r := rfl
     have h' := hr
     unfold Rising at hr
     rw [List.pairwise_append] at hr
     obtain ⟨ha, _, hac⟩ := hr
     rw [e, put_ins ha, ins_last (fun x hx => hac x hx c List.mem_cons_self), ih]
     · simp
     · simpa using h'
 simpa using H l [] (by simpa using h)
def memory (bs : List (List Ch)) : List Ch := bs.foldl over []
theorem memory_rising (bs : List (List Ch)) : Rising (memory bs) := by
 have H : ∀ (bs : List (List Ch)) (l : List Ch), Rising l → Rising (bs.foldl over l) := by
   intro bs
   induction bs with
   | nil => intro l h; exact h
   | cons b r ih => intro l h; exact ih _ (over_rising h)
 exact H bs [] List.Pairwise.nil
theorem memory_snoc (bs : List (List Ch)) (b : List Ch) : memory (bs ++ [b]) = over (memory bs) b := by simp [memory, List.foldl_append]
def getIn (l : List Ch) (k : List UInt8) : Option Ch := l.find? (fun c => decide (c.key = k))
def inPart (a b : List UInt8) (c : Ch) : Bool := decide (¬ c.key < a) && (decide (b = []) || decide (c.key < b))
def scanIn (l : List Ch) (a b : List UInt8) (most : Nat) : List Ch := ((there l).filter (inPart a b)).take most
theorem drop_below {l : List Ch} (h : Rising l) (k : List UInt8) : l.drop (below l k) = l.filter (fun c => decide (¬ c.key < k)) := by
 induction l with
 | nil => simp [below]
 | cons x r ih =>
   unfold Rising at h
   rw [List.pairwise_cons] at h
   by_cases hx : x.key < k
   · have hb : below (x :: r) k = below r k + 1 := by simp [below, hx]
     rw [hb]
     simp [ih h.2, hx]
   · have hb : below (x :: r) k = 0 := by simp [below, hx]
     rw [hb]
     have hr : ∀ c ∈ r, ¬ c.key < k := fun c hc e => hx (List.lt_trans (h.1 c hc) e)
     have : r.filter (fun c => decide (¬ c.key < k)) = r := List.filter_eq_self.2 (fun c hc => by simpa using hr c hc)
     simp only [List.drop_zero]
     rw [List.filter_cons_of_pos (by simpa using hx), this]
theorem get_below {l : List Ch} (h : Rising l) (k : List UInt8) : getIn l k = (l[below l k]?).filter (fun c => decide (c.key = k)) := by
 induction l with
 | nil => simp [getIn, below]
 | cons x r ih =>
   unfold Rising at h
   rw [List.pairwise_cons] at h
   by_cases hx : x.key < k
   · have hb : below (x :: r) k = below r k + 1 := by simp [below, hx]
     have hne : x.key ≠ k := fun e => by rw [e] at hx; exact List.lt_irrefl _ hx
     rw [hb, List.getElem?_cons_succ, ← ih h.2]
     simp [getIn, hne]
   · have hb : below (x :: r) k = 0 := by simp [below, hx]
     rw [hb]
     by_cases he : x.key = k
     · simp [getIn, he, Option.filter]
     · have hr : ∀ c ∈ r, c.key ≠ k := fun c hc e => hx (e ▸ h.1 c hc)
       have : getIn r k = none := List.find?_eq_none.2 (fun c hc => by simpa using hr c hc)
       simp [getIn, he, Option.filter] at this ⊢
       exact this
theorem takeWhile_filter {l : List Ch} (h : Rising l) (b : List UInt8) : l.takeWhile (fun c => decide (b = []) || decide (c.key < b)) = l.filter (fun c => decide (b = []) || decide (c.key < b)) := by
 induction l with
 | nil => rfl
 | cons x r ih =>
   unfold Rising at h
   rw [List.pairwise_cons] at h
   by_cases hx : (decide (b = []) || decide (x.key < b)) = true
   · rw [List.takeWhile_cons_of_pos (p := fun c : Ch => decide (b = []) || decide (c.key < b)) hx, List.filter_cons_of_pos (p := fun c : Ch => decide (b = []) || decide (c.key < b)) hx, ih h.2]
   · have hr : ∀ c ∈ r, ¬ (decide (b = []) || decide (c.key < b)) = true := by
       intro c hc e
       simp at hx e
       rcases e with e | e
       · exact hx.1 e
       · exact hx.2 (List.lt_trans (h.1 c hc) e)
     rw [List.takeWhile_cons_of_neg (p := fun c : Ch => decide (b = []) || decide (c.key < b)) hx, List.filter_cons_of_neg (p := fun c : Ch => decide (b = []) || decide (c.key < b)) hx, List.filter_eq_nil_iff.2 hr]
def allowed (c : Ch) : Bool := decide (1 ≤ c.key.length) && decide (c.key.length ≤ 16) && decide (c.value.length ≤ 40) && !(c.gone && decide (c.value ≠ []))
theorem allowed_iff (c : Ch) : allowed c = true ↔ 1 ≤ c.key.length ∧ c.key.length ≤ 16 ∧ c.value.length ≤ 40 ∧ (c.gone = true → c.value = []) := by
 unfold allowed
 cases c.gone <;> simp [and_assoc]
def okBatch (b : List Ch) : Bool := decide (1 ≤ b.length) && decide (b.length ≤ 8) && b.all allowed
def takeText : List UInt8 → Option (List UInt8 × List UInt8)
 | [] => none
 | n :: r => if n.toNat ≤ r.length then some (r.take n.toNat, r.drop n.toNat) else none
def takeEntry : List UInt8 → Option (Ch × List UInt8)
 | [] => none
 | k :: r =>
   if k = 1 then
     match takeText r with
     | none => none
     | some (key, r1) =>
       match takeText r1 with
       | none => none
       | some (v, r2) => if allowed ⟨key, v, false⟩ then some (⟨key, v, false⟩, r2) else none
   else if k = 2 then
     match takeText r with
     | none => none
     | some (key, r1) => if allowed ⟨key, [], true⟩ then some (⟨key, [], true⟩, r1) else none
   else none
def takeEntries : Nat → List UInt8 → Option (List Ch × List UInt8)
 | 0, l => some ([], l)
 | n + 1, l =>
   match takeEntry l with
   | none => none
   | some (c, r) =>
     match takeEntries n r with
     | none => none
     | some (cs, r') => some (c :: cs, r')
def readEntries (most : Nat) : List UInt8 → Option (List Ch)
 | [] => none
 | n :: r => if 1 ≤ n.toNat ∧ n.toNat ≤ most then
     match takeEntries n.toNat r with
     | some (cs, []) => some cs
     | _ => none
   else none
def readBatch (num : Nat) (l : List UInt8) : Option (List Ch) := if 8 ≤ l.length ∧ number (l.take 8) = num then readEntries 8 (l.drop 8) else none
def takeBatch (num : Nat) (l : List UInt8) : Option (List Ch × List UInt8) :=
 match takeFrame l with
 | none => none
 | some (h, r) =>
   match readBatch num h with
   | none => none
   | some b => some (b, r)
theorem big_one (n : Nat) : big n 1 = [UInt8.ofNat (n % 256)] := by simp [big]
theorem takeText_text {t : List UInt8} (h : t.length < 256) (r : List UInt8) : takeText (text t ++ r) = some (t, r) := by
 have e : (UInt8.ofNat (t.length % 256)).toNat = t.length := by simp [UInt8.toNat_ofNat']; omega
 have e1 : text t ++ r = UInt8.ofNat (t.length % 256) :: (t ++ r) := by simp [text, big_one]
 rw [e1]
 simp only [takeText, e]
 rw [if_pos (by simp)]
 simp
theorem text_of_take {l t r : List UInt8} (h : takeText l = some (t, r)) : l = text t ++ r ∧ t.length < 256 := by
 cases l with
 | nil => simp [takeText] at h
 | cons n q =>
   simp only [takeText] at h
   split at h
   · rename_i hn
     cases h
     have hx : n.toNat < 256 := n.toNat_lt
     have hl : (q.take n.toNat).length = n.toNat := by simp; omega
     refine ⟨?_, by omega⟩
     unfold text
     rw [hl, big_one, Nat.mod_eq_of_lt hx]
     simp
   · cases h
theorem takeEntry_entry {c : Ch} (h : allowed c = true) (r : List UInt8) : takeEntry (entry c ++ r) = some (c, r) := by
 obtain ⟨k, v, g⟩ := c
 have ha := (allowed_iff _).1 h
 simp only at ha
 cases g with
 | false =>
   have e : entry ⟨k, v, false⟩ ++ r = 1 :: (text k ++ (text v ++ r)) := by simp [entry]
   rw [e]
   simp only [takeEntry, takeText_text (show k.length < 256 by omega), takeText_text (show v.length < 256 by omega), h]
   simp
 | true =>
   have hv : v = [] := ha.2.2.2 rfl
   subst hv
   have e : entry ⟨k, [], true⟩ ++ r = 2 :: (text k ++ r) := by simp [entry]
   rw [e]
   have h21 : ¬ (2 : UInt8) = 1 := by decide
   simp only [takeEntry, if_neg h21, takeText_text (show k.length < 256 by omega), h]
   simp
theorem entry_of_take {l r : List UInt8} {c : Ch} (h : takeEntry l = some (c, r)) : l = entry c ++ r ∧ allowed c = true := by
 cases l with
 | nil => simp [takeEntry] at h
 | cons k q =>
   simp only [takeEntry] at h
   split at h
   · rename_i hk
     subst hk
     cases h1 : takeText q with
     | none => rw [h1] at h; cases h
     | some p =>
       obtain ⟨key, r1⟩ := p
       rw [h1] at h
       simp only at h
       cases h2 : takeText r1 with
       | none => rw [h2] at h; cases h
       | some p =>
         obtain ⟨v, r2⟩ := p
         rw [h2] at h
         simp only at h
         split at h
         · rename_i ha
           cases h
           have e1 := (text_of_take h1).1
           have e2 := (text_of_take h2).1
           refine ⟨?_, ha⟩
           rw [e1, e2]
           simp [entry]
         · cases h
   · split at h
     · rename_i _ hk
       subst hk
       cases h1 : takeText q with
       | none => rw [h1] at h; cases h
       | some p =>
         obtain ⟨key, r1⟩ := p
         rw [h1] at h
         simp only at h
         split at h
         · rename_i ha
           cases h
           have e1 := (text_of_take h1).1
           refine ⟨?_, ha⟩
           rw [e1]
           simp [entry]
         · cases h
     · cases h
theorem takeEntries_flat {cs : List Ch} (h : ∀ c ∈ cs, allowed c = true) (r : List UInt8) : takeEntries cs.length (cs.flatMap entry ++ r) = some (cs, r) := by
 induction cs with
 | nil => simp [takeEntries]
 | cons c q ih =>
   have e : (c :: q).flatMap entry ++ r = entry c ++ (q.flatMap entry ++ r) := by simp
   rw [e, List.length_cons, takeEntries, takeEntry_entry (h c List.mem_cons_self)]
   simp only [ih (fun x hx => h x (List.mem_cons_of_mem _ hx))]
theorem flat_of_take {n : Nat} {l r : List UInt8} {cs : List Ch} (h : takeEntries n l = some (cs, r)) : l = cs.flatMap entry ++ r ∧ cs.length = n ∧ ∀ c ∈ cs, allowed c = true := by
 induction n generalizing l cs with
 | zero => simp [takeEntries] at h; obtain ⟨rfl, rfl⟩ := h; simp
 | succ n ih =>
   rw [takeEntries] at h
   cases h1 : takeEntry l with
   | none => rw [h1] at h; cases h
   | some p =>
     obtain ⟨c, q⟩ := p
     rw [h1] at h
     simp only at h
     cases h2 : takeEntries n q with
     | none => rw [h2] at h; cases h
     | some p =>
       obtain ⟨ds, q'⟩ := p
       rw [h2] at h
       cases h
       obtain ⟨e1, e2, e3⟩ := ih h2
       obtain ⟨e4, e5⟩ := entry_of_take h1
       refine ⟨by rw [e4, e1]; simp, by simp [e2], fun x hx => ?_⟩
       rcases List.mem_cons.1 hx with rfl | hx
       · exact e5
       · exact e3 x hx
theorem readEntries_make {most : Nat} {cs : List Ch} (h1 : 1 ≤ cs.length) (h2 : cs.length ≤ most) (h3 : most < 256) (h : ∀ c ∈ cs, allowed c = true) : readEntries most (big cs.length 1 ++ cs.flatMap entry) = some cs := by
 have e : (UInt8.ofNat (cs.length % 256)).toNat = cs.length := by simp [UInt8.toNat_ofNat']; omega
 rw [big_one]
 simp only [List.singleton_append, readEntries]
 rw [e, if_pos ⟨h1, h2⟩]
 have := takeEntries_flat h []
 rw [List.append_nil] at this
 rw [this]
theorem make_of_read {most : Nat} {l : List UInt8} {cs : List Ch} (h : readEntries most l = some cs) : l = big cs.length 1 ++ cs.flatMap entry ∧ 1 ≤ cs.length ∧ cs.length ≤ most ∧ ∀ c ∈ cs, allowed c = true := by
 cases l with
 | nil => simp [readEntries] at h
 | cons n q =>
   simp only [readEntries] at h
   split at h
   · rename_i hn
     split at h
     · rename_i cs' h1
       cases h
       obtain ⟨e1, e2, e3⟩ := flat_of_take h1
       have hx : n.toNat < 256 := n.toNat_lt
       refine ⟨?_, by omega, by omega, e3⟩
       rw [e2, big_one, Nat.mod_eq_of_lt hx, e1]
       simp
     · cases h
   · cases h
def batchBytes (num : Nat) (b : List Ch) : List UInt8 := frame (big num 8 ++ big b.length 1 ++ b.flatMap entry)
theorem entry_length {c : Ch} (h : allowed c = true) : (entry c).length ≤ 59 := by
 have ha := (allowed_iff _).1 h
 unfold entry
 split <;> simp [text, big_length] <;> omega
theorem flat_length {b : List Ch} (h : ∀ c ∈ b, allowed c = true) : (b.flatMap entry).length ≤ 59 * b.length := by
 induction b with
 | nil => simp
 | cons c r ih =>
   have h1 := entry_length (h c List.mem_cons_self)
   have h2 := ih (fun x hx => h x (List.mem_cons_of_mem _ hx))
   simp only [List.flatMap_cons, List.length_append, List.length_cons]
   omega
theorem okBatch_iff (b : List Ch) : okBatch b = true ↔ 1 ≤ b.length ∧ b.length ≤ 8 ∧ ∀ c ∈ b, allowed c = true := by
 simp [okBatch, and_assoc]
theorem takeBatch_make {num : Nat} {b : List Ch} (hn : num < 256 ^ 8) (h : okBatch b = true) (r : List UInt8) : takeBatch num (batchBytes num b ++ r) = some (b, r) := by
 obtain ⟨h1, h2, h3⟩ := (okBatch_iff b).1 h
 have hf := flat_length h3
 have hl : (big num 8 ++ big b.length 1 ++ b.flatMap entry).length < 256 ^ 4 := by rw [List.length_append, List.length_append, big_length, big_length]; omega
 unfold takeBatch batchBytes
 rw [takeFrame_frame _ _ hl]
 have h8 : (big num 8).length = 8 := big_length _ _
 have e1 : (big num 8 ++ big b.length 1 ++ b.flatMap entry).take 8 = big num 8 := by
   rw [List.append_assoc, List.take_append_of_le_length (by omega), List.take_of_length_le (by omega)]
 have e2 : (big num 8 ++ big b.length 1 ++ b.flatMap entry).drop 8 = big b.length 1 ++ b.flatMap entry := by
   rw [List.append_assoc, List.drop_append_of_le_length (by omega), List.drop_of_length_le (by omega), List.nil_append]
 simp only [readBatch, e1, e2, number_big _ _ hn, readEntries_make h1 h2 (by omega) h3]
 simp [big_length]
theorem make_of_takeBatch {num : Nat} {l r : List UInt8} {b : List Ch} (h : takeBatch num l = some (b, r)) : l = batchBytes num b ++ r ∧ okBatch b = true := by
 unfold takeBatch at h
 cases h1 : takeFrame l with
 | none => rw [h1] at h; cases h
 | some p =>
   obtain ⟨x, q⟩ := p
   rw [h1] at h
   simp only at h
   cases h2 : readBatch num x with
   | none => rw [h2] at h; cases h
   | some b' =>
     rw [h2] at h
     cases h
     unfold readBatch at h2
     split at h2
     · rename_i hc
       obtain ⟨h8, hn⟩ := hc
       obtain ⟨e1, e2, e3, e4⟩ := make_of_read h2
       refine ⟨?_, (okBatch_iff b).2 ⟨e2, e3, e4⟩⟩
       rw [frame_of_take h1]
       unfold batchBytes
       have e5 : big num 8 = x.take 8 := by rw [← hn]; exact big_number 8 _ (by simp; omega)
       rw [e5, List.append_assoc, ← e1, List.take_append_drop]
     · cases h2
theorem logBytes_snoc (last : Nat) (bs : List (List Ch)) (b : List Ch) : logBytes last (bs ++ [b]) = logBytes last bs ++ batchBytes (last + bs.length + 1) b := by
 induction bs generalizing last with
 | nil => simp [logBytes, batchBytes]
 | cons x r ih =>
   simp only [List.cons_append, logBytes, ih, List.length_cons, List.append_assoc]
   rw [show last + 1 + r.length + 1 = last + (r.length + 1) + 1 by omega]
def TakenN (last : Nat) (l : List UInt8) : Nat → List (List Ch) → List UInt8 → Prop
 | 0, bs, r => bs = [] ∧ r = l
 | n + 1, bs, r => ∃ cs q b, bs = cs ++ [b] ∧ TakenN last l n cs q ∧ last + cs.length < 1000000000 ∧ takeBatch (last + cs.length + 1) q = some (b, r)
def Taken (last : Nat) (l : List UInt8) (bs : List (List Ch)) (r : List UInt8) : Prop := ∃ n, TakenN last l n bs r
theorem Taken.none {last : Nat} {l : List UInt8} : Taken last l [] l := ⟨0, rfl, rfl⟩
theorem Taken.more {last : Nat} {l : List UInt8} {bs : List (List Ch)} {r : List UInt8} {b : List Ch} {r' : List UInt8} (h : Taken last l bs r) (h1 : last + bs.length < 1000000000) (h2 : takeBatch (last + bs.length + 1) r = some (b, r')) : Taken last l (bs ++ [b]) r' := by
 obtain ⟨n, h⟩ := h
 exact ⟨n + 1, bs, r, b, rfl, h, h1, h2⟩
theorem Taken.elim {last : Nat} {l : List UInt8} {M : List (List Ch) → List UInt8 → Prop} (h0 : M [] l)
   (h1 : ∀ bs r b r', Taken last l bs r → last + bs.length < 1000000000 → takeBatch (last + bs.length + 1) r = some (b, r') → M bs r → M (bs ++ [b]) r') {bs : List (List Ch)} {r : List UInt8} (h : Taken last l bs r) : M bs r := by
 obtain ⟨n, h⟩ := h
 induction n generalizing bs r with
 | zero => obtain ⟨rfl, rfl⟩ := h; exact h0
 | succ n ih =>
   obtain ⟨cs, q, b, rfl, h2, h3, h4⟩ := h
   exact h1 cs q b r ⟨n, h2⟩ h3 h4 (ih h2)
theorem Taken.inv {last : Nat} {l : List UInt8} {bs : List (List Ch)} {r : List UInt8} (h : Taken last l bs r) : (bs = [] ∧ r = l) ∨ ∃ cs q b, bs = cs ++ [b] ∧ Taken last l cs q ∧ last + cs.length < 1000000000 ∧ takeBatch (last + cs.length + 1) q = some (b, r) := by
 obtain ⟨n, h⟩ := h
 cases n with
 | zero => exact .inl h
 | succ n =>
   obtain ⟨cs, q, b, e, h2, h3, h4⟩ := h
   exact .inr ⟨cs, q, b, e, ⟨n, h2⟩, h3, h4⟩
def Over (last : Nat) (bs : List (List Ch)) (r : List UInt8) : Prop := ¬ last + bs.length < 1000000000 ∨ takeBatch (last + bs.length + 1) r = none
theorem Taken.bytes {last : Nat} {l : List UInt8} {bs : List (List Ch)} {r : List UInt8} (h : Taken last l bs r) : l = logBytes last bs ++ r ∧ ∀ b ∈ bs, okBatch b = true := by
 refine Taken.elim (M := fun bs r => l = logBytes last bs ++ r ∧ ∀ b ∈ bs, okBatch b = true) ⟨rfl, fun _ h => by cases h⟩ ?_ h
 · intro bs r b r' h1 h2 h3 ih
   obtain ⟨e1, e2⟩ := make_of_takeBatch h3
   refine ⟨?_, fun x hx => ?_⟩
   · rw [logBytes_snoc, List.append_assoc, ← e1]; exact ih.1
   · rcases List.mem_append.1 hx with hx | hx
     · exact ih.2 x hx
     · rw [List.mem_singleton.1 hx]; exact e2
theorem Taken.pfx {last : Nat} {l : List UInt8} {bs cs : List (List Ch)} {r q : List UInt8} (h : Taken last l bs r) (k : Taken last l cs q) (hn : bs.length = cs.length) : bs = cs ∧ r = q := by
 refine Taken.elim (M := fun bs r => ∀ cs q, Taken last l cs q → bs.length = cs.length → bs = cs ∧ r = q) ?_ ?_ h cs q k hn
 · intro cs q k hn
   rcases k.inv with ⟨rfl, rfl⟩ | ⟨cs', q', b, rfl, _⟩
   · exact ⟨rfl, rfl⟩
   · simp at hn
 · intro bs r b r' h1 h2 h3 ih cs q k hn
   rcases k.inv with ⟨rfl, rfl⟩ | ⟨cs', q', c, rfl, k1, k2, k3⟩
   · simp at hn
   · obtain ⟨rfl, rfl⟩ := ih cs' q' k1 (by simpa using hn)
     rw [h3] at k3
     cases k3
     exact ⟨rfl, rfl⟩
theorem Taken.less {last : Nat} {l : List UInt8} {bs : List (List Ch)} {r : List UInt8} (h : Taken last l bs r) : ∀ n, n ≤ bs.length → ∃ cs q, Taken last l cs q ∧ cs.length = n ∧ (n < bs.length → ∃ b q', last + n < 1000000000 ∧ takeBatch (last + n + 1) q = some (b, q')) := by
 refine Taken.elim (M := fun bs r => ∀ n, n ≤ bs.length → ∃ cs q, Taken last l cs q ∧ cs.length = n ∧ (n < bs.length → ∃ b q', last + n < 1000000000 ∧ takeBatch (last + n + 1) q = some (b, q'))) ?_ ?_ h
 · intro n hn; simp at hn; exact ⟨[], l, .none, by simp [hn], by simp⟩
 · intro bs r b r' h1 h2 h3 ih n hn
   by_cases h : n ≤ bs.length
   · obtain ⟨cs, q, k1, k2, k3⟩ := ih n h
     refine ⟨cs, q, k1, k2, fun _ => ?_⟩
     by_cases he : n < bs.length
     · exact k3 he
     · have e : cs.length = bs.length := by omega
       obtain ⟨rfl, rfl⟩ := k1.pfx h1 e
       subst k2
       exact ⟨b, r', h2, h3⟩
   · have e : n = (bs ++ [b]).length := by simp at hn ⊢; omega
     exact ⟨bs ++ [b], r', .more h1 h2 h3, e.symm, by omega⟩
theorem Taken.unique {last : Nat} {l : List UInt8} {bs cs : List (List Ch)} {r q : List UInt8} (h : Taken last l bs r) (ho : Over last bs r) (k : Taken last l cs q) (ko : Over last cs q) : bs = cs ∧ r = q := by
 have H : ∀ {bs cs : List (List Ch)} {r q : List UInt8}, Taken last l bs r → Over last bs r → Taken last l cs q → ¬ bs.length < cs.length := by
   intro bs cs r q h ho k hlt
   obtain ⟨ds, p, k1, k2, k3⟩ := k.less bs.length (by omega)
   obtain ⟨b, q', h5, h6⟩ := k3 hlt
   obtain ⟨rfl, rfl⟩ := h.pfx k1 k2.symm
   rcases ho with ho | ho
   · exact ho h5
   · rw [ho] at h6; cases h6
 have e : bs.length = cs.length := by
   have h1 := H h ho k
   have h2 := H k ko h
   omega
 exact h.pfx k e
theorem taken_log {last : Nat} {bs : List (List Ch)} (h : ∀ b ∈ bs, okBatch b = true) (hl : last + bs.length ≤ 1000000000) (r : List UInt8) : Taken last (logBytes last bs ++ r) bs r := by
 have H : ∀ (q bs : List (List Ch)), (∀ b ∈ bs ++ q, okBatch b = true) → last + (bs ++ q).length ≤ 1000000000 → ∀ r', Taken last (logBytes last (bs ++ q) ++ r) bs (r') → r' = logBytes (last + bs.length) q ++ r → Taken last (logBytes last (bs ++ q) ++ r) (bs ++ q) r := by
   intro q
   induction q with
   | nil => intro bs _ _ r' h e; simp [logBytes] at e; subst e; simpa using h
   | cons b q ih =>
     intro bs hb hlen r' h e
     have e1 : bs ++ b :: q = (bs ++ [b]) ++ q := by simp
     have hb1 : okBatch b = true := hb b (by simp)
     simp only [List.length_append, List.length_cons] at hlen
     have h3 : takeBatch (last + bs.length + 1) r' = some (b, logBytes (last + bs.length + 1) q ++ r) := by
       rw [e]
       simp only [logBytes, List.append_assoc]
       have := takeBatch_make (num := last + bs.length + 1) (by omega) hb1 (logBytes (last + bs.length + 1) q ++ r)
       simpa [batchBytes] using this
     have h4 := Taken.more h (by omega) h3
     rw [e1] at h4 hb ⊢
     refine ih (bs ++ [b]) hb (by simp; omega) _ h4 ?_
     simp [Nat.add_assoc]
 have := H bs [] (by simpa using h) (by simpa using hl) _ .none (by simp)
 simpa using this
theorem over_nil_log (last : Nat) (bs : List (List Ch)) : Over last bs [] := by
 refine .inr ?_
 simp [takeBatch, takeFrame]
structure Man where
 next : Nat
 last : Nat
 log : Nat
 base : Nat
 runs : List Nat
def Man.settled (m : Man) : List Nat := if m.base = 0 then m.runs else m.runs ++ [m.base]
def Man.numbers (m : Man) : List Nat := m.settled ++ [m.log]
abbrev Man.Good (m : Man) : Prop := m.next ≤ 2000000000 ∧ m.last ≤ 1000000000 ∧ (∀ n ∈ m.numbers, 1 ≤ n ∧ n < m.next) ∧ m.numbers.Nodup
def Man.bytes (m : Man) : List UInt8 := manifest m.next m.last m.log m.base m.runs
def numbers8 : Nat → List UInt8 → List Nat
 | 0, _ => []
 | n + 1, l => number (l.take 8) :: numbers8 n (l.drop 8)
def readMan (l : List UInt8) : Option Man :=
 match takeFrame l with
 | none => none
 | some (h, r) =>
   if r = [] ∧ 34 ≤ h.length ∧ h.length = 34 + 8 * number ((h.drop 32).take 2) then
     let m : Man := ⟨number (h.take 8), number ((h.drop 8).take 8), number ((h.drop 16).take 8), number ((h.drop 24).take 8), numbers8 (number ((h.drop 32).take 2)) (h.drop 34)⟩
     if m.Good then some m else none
   else none
theorem numbers8_flat {rs : List Nat} (h : ∀ r ∈ rs, r < 256 ^ 8) (q : List UInt8) : numbers8 rs.length (rs.flatMap (fun r => big r 8) ++ q) = rs := by
 induction rs with
 | nil => rfl
 | cons x r ih =>
   have h8 : (big x 8).length = 8 := big_length _ _
   simp only [List.length_cons, numbers8, List.flatMap_cons, List.append_assoc]
   rw [List.take_append_of_le_length (by omega), List.take_of_length_le (by omega), number_big _ _ (h x List.mem_cons_self), List.drop_append_of_le_length (by omega), List.drop_of_length_le (by omega), List.nil_append, ih (fun y hy => h y (List.mem_cons_of_mem _ hy))]
theorem numbers8_length (n : Nat) (l : List UInt8) : (numbers8 n l).length = n := by
 induction n generalizing l with
 | zero => rfl
 | succ n ih => simp [numbers8, ih]
theorem Man.Good.bounds {m : Man} (h : m.Good) : m.next < 256 ^ 8 ∧ m.last < 256 ^ 8 ∧ m.log < 256 ^ 8 ∧ m.base < 256 ^ 8 ∧ ∀ r ∈ m.runs, r < 256 ^ 8 := by
 obtain ⟨h1, h2, h3, h4⟩ := h
 have hl := h3 m.log (by simp [Man.numbers])
 refine ⟨by omega, by omega, by omega, ?_, fun r hr => ?_⟩
 · by_cases hb : m.base = 0
   · omega
   · have := h3 m.base (by simp [Man.numbers, Man.settled, hb])
     omega
 · have := h3 r (by unfold Man.numbers Man.settled; split <;> simp [hr])
   omega
theorem readMan_bytes {m : Man} (h : m.Good) (hr : m.runs.length < 65536) : readMan m.bytes = some m := by
 obtain ⟨b1, b2, b3, b4, b5⟩ := h.bounds
 obtain ⟨next, last, log, base, runs⟩ := m
 simp only at b1 b2 b3 b4 b5 hr
 have l1 : (big next 8).length = 8 := big_length _ _
 have l2 : (big last 8).length = 8 := big_length _ _
 have l3 : (big log 8).length = 8 := big_length _ _
 have l4 : (big base 8).length = 8 := big_length _ _
 have l5 : (big runs.length 2).length = 2 := big_length _ _
 have l6 : (runs.flatMap fun r => big r 8).length = 8 * runs.length := by
   clear b5 hr h l5
   induction runs with
   | nil => rfl
   | cons x r ih => simp [List.flatMap_cons, big_length, ih]; omega
 generalize hA : big next 8 = A at *
 generalize hB : big last 8 = B at *
 generalize hC : big log 8 = C at *
 generalize hD : big base 8 = D at *
 generalize hE : big runs.length 2 = E at *
 generalize hF : (runs.flatMap fun r => big r 8) = F at *
 have hm : Man.bytes ⟨next, last, log, base, runs⟩ = frame (A ++ (B ++ (C ++ (D ++ (E ++ F))))) := by
   simp [Man.bytes, manifest, hA, hB, hC, hD, hE, hF]
 have hlen : (A ++ (B ++ (C ++ (D ++ (E ++ F))))).length = 34 + 8 * runs.length := by simp [l1, l2, l3, l4, l5, l6]; omega
 have ht : ∀ (X Y : List UInt8) n, X.length = n → (X ++ Y).take n = X := fun X Y n e => by subst e; simp
 have hd : ∀ (X Y : List UInt8) n, X.length = n → (X ++ Y).drop n = Y := fun X Y n e => by subst e; simp
 have dA := hd A (B ++ (C ++ (D ++ (E ++ F)))) 8 l1
 have dB : (A ++ (B ++ (C ++ (D ++ (E ++ F))))).drop 16 = C ++ (D ++ (E ++ F)) := by rw [show 16 = 8 + 8 from rfl, ← List.drop_drop, dA, hd B _ 8 l2]
 have dC : (A ++ (B ++ (C ++ (D ++ (E ++ F))))).drop 24 = D ++ (E ++ F) := by rw [show 24 = 16 + 8 from rfl, ← List.drop_drop, dB, hd C _ 8 l3]
 have dD : (A ++ (B ++ (C ++ (D ++ (E ++ F))))).drop 32 = E ++ F := by rw [show 32 = 24 + 8 from rfl, ← List.drop_drop, dC, hd D _ 8 l4]
 have dE : (A ++ (B ++ (C ++ (D ++ (E ++ F))))).drop 34 = F := by rw [show 34 = 32 + 2 from rfl, ← List.drop_drop, dD, hd E _ 2 l5]
 have hf := takeFrame_frame (A ++ (B ++ (C ++ (D ++ (E ++ F))))) [] (by rw [hlen]; omega)
 rw [List.append_nil] at hf
 have hnE : number E = runs.length := by rw [← hE]; exact number_big _ _ (by omega)
 unfold readMan
 rw [hm, hf]
 simp only [dA, dB, dC, dD, dE, ht A _ 8 l1, ht B _ 8 l2, ht C _ 8 l3, ht D _ 8 l4, ht E _ 2 l5, hnE, hlen]
 rw [if_pos ⟨trivial, by omega, trivial⟩]
 have n8 : numbers8 runs.length F = runs := by
   have := numbers8_flat b5 []
   rw [List.append_nil, hF] at this
   exact this
 rw [n8, ← hA, ← hB, ← hC, ← hD, number_big _ _ b1, number_big _ _ b2, number_big _ _ b3, number_big _ _ b4, if_pos h]
theorem key_cases (a b : List UInt8) : a < b ∨ a = b ∨ b < a := Std.lt_trichotomy a b
theorem key_ne {a b : List UInt8} (h : a < b) : a ≠ b := fun e => by rw [e] at h; exact List.lt_irrefl _ h
theorem key_not {a b : List UInt8} (h : a < b) : ¬ b < a := fun k => List.lt_irrefl _ (List.lt_trans h k)
theorem getIn_cons (x : Ch) (l : List Ch) (k : List UInt8) : getIn (x :: l) k = if x.key = k then some x else getIn l k := by
 unfold getIn
 by_cases h : x.key = k <;> simp [h]
theorem getIn_key {l : List Ch} {k : List UInt8} {c : Ch} (h : getIn l k = some c) : c.key = k := by
 have := List.find?_some h
 simpa using this
theorem getIn_mem {l : List Ch} {k : List UInt8} {c : Ch} (h : getIn l k = some c) : c ∈ l := List.mem_of_find?_eq_some h
theorem getIn_none {l : List Ch} {k : List UInt8} (h : ∀ c ∈ l, c.key ≠ k) : getIn l k = none := List.find?_eq_none.2 (fun c hc => by simpa using h c hc)
theorem getIn_rising {l : List Ch} (h : Rising l) {c : Ch} (hc : c ∈ l) : getIn l c.key = some c := by
 induction l with
 | nil => cases hc
 | cons x r ih =>
   unfold Rising at h
   rw [List.pairwise_cons] at h
   rw [getIn_cons]
   rcases List.mem_cons.1 hc with rfl | hc
   · simp
   · rw [if_neg (key_ne (h.1 c hc)), ih h.2 hc]
theorem rising_ext {a b : List Ch} (ha : Rising a) (hb : Rising b) (h : ∀ k, getIn a k = getIn b k) : a = b := by
 induction a generalizing b with
 | nil =>
   cases b with
   | nil => rfl
   | cons y s =>
     have := h y.key
     rw [getIn_cons, if_pos rfl] at this
     cases this
 | cons x r ih =>
   cases b with
   | nil =>
     have := h x.key
     rw [getIn_cons, if_pos rfl] at this
     cases this
   | cons y s =>
     have ha' := ha
     have hb' := hb
     unfold Rising at ha hb
     rw [List.pairwise_cons] at ha hb
     have e1 : ¬ x.key < y.key := fun hlt => by
       have := h x.key
       rw [getIn_cons, if_pos rfl, getIn_cons, if_neg (fun e => key_ne hlt e.symm), getIn_none (l := s) (k := x.key) (fun c hc e => key_not hlt (by have := hb.1 c hc; rwa [e] at this))] at this
       cases this
     have e2 : ¬ y.key < x.key := fun hlt => by
       have := h y.key
       rw [getIn_cons, if_neg (fun e => key_ne hlt e.symm), getIn_none (l := r) (k := y.key) (fun c hc e => key_not hlt (by have := ha.1 c hc; rwa [e] at this)), getIn_cons, if_pos rfl] at this
       cases this
     have ek : x.key = y.key := (key_cases x.key y.key).elim (fun h => (e1 h).elim) (fun h => h.elim id (fun h => (e2 h).elim))
     have ex : x = y := by
       have := h x.key
       rw [getIn_cons, if_pos rfl, getIn_cons, if_pos ek.symm] at this
       exact Option.some.inj this
     subst ex
     refine congrArg _ (ih ha.2 hb.2 (fun k => ?_))
     by_cases hk : x.key = k
     · rw [getIn_none (fun c hc e => key_ne (ha.1 c hc) (hk.trans e.symm)), getIn_none (fun c hc e => key_ne (hb.1 c hc) (hk.trans e.symm))]
     · have := h k
       rw [getIn_cons, if_neg hk, getIn_cons, if_neg hk] at this
       exact this
theorem getIn_ins {l : List Ch} (h : Rising l) (c : Ch) (k : List UInt8) : getIn (ins c l) k = if c.key = k then some c else getIn l k := by
 induction l with
 | nil => simp [ins, getIn_cons]
 | cons x r ih =>
   unfold Rising at h
   rw [List.pairwise_cons] at h
   unfold ins
   split
   · rw [getIn_cons]
   · split
     · rename_i _ he
       rw [getIn_cons]
       by_cases hk : c.key = k
       · rw [if_pos hk, if_pos hk]
       · rw [if_neg hk, if_neg hk, getIn_cons, if_neg (fun e => hk (he.symm.trans e))]
     · rename_i hn he
       rw [getIn_cons, ih h.2, getIn_cons]
       by_cases hk : c.key = k
       · rw [if_pos hk, if_pos hk, if_neg (fun e => he (e.trans hk.symm))]
       · rw [if_neg hk, if_neg hk]
theorem getIn_over {l more : List Ch} (h : Rising l) (hm : Rising more) (k : List UInt8) : getIn (over l more) k = (getIn more k).or (getIn l k) := by
 induction more generalizing l with
 | nil => simp [over, getIn]
 | cons x r ih =>
   unfold Rising at hm
   rw [List.pairwise_cons] at hm
   have e : over l (x :: r) = over (ins x l) r := by simp [over, put_ins h]
   rw [e, ih (rising_ins h) hm.2, getIn_ins h, getIn_cons]
   by_cases hk : x.key = k
   · rw [if_pos hk, if_pos hk, getIn_none (fun c hc e => key_ne (hm.1 c hc) (hk.trans e.symm))]
     rfl
   · rw [if_neg hk, if_neg hk]
def merged (ls : List (List Ch)) : List Ch := ls.foldr (fun l acc => over acc l) []
theorem merged_cons (l : List Ch) (ls : List (List Ch)) : merged (l :: ls) = over (merged ls) l := rfl
theorem merged_rising (ls : List (List Ch)) : Rising (merged ls) := by
 induction ls with
 | nil => exact List.Pairwise.nil
 | cons l ls ih => exact over_rising ih
def firstIn (ls : List (List Ch)) (k : List UInt8) : Option Ch := ls.foldr (fun l acc => (getIn l k).or acc) none
theorem firstIn_cons (l : List Ch) (ls : List (List Ch)) (k : List UInt8) : firstIn (l :: ls) k = (getIn l k).or (firstIn ls k) := rfl
theorem getIn_merged {ls : List (List Ch)} (h : ∀ l ∈ ls, Rising l) (k : List UInt8) : getIn (merged ls) k = firstIn ls k := by
 induction ls with
 | nil => rfl
 | cons l ls ih =>
   rw [merged_cons, getIn_over (merged_rising ls) (h l List.mem_cons_self), firstIn_cons, ih (fun x hx => h x (List.mem_cons_of_mem _ hx))]
theorem merged_one {l : List Ch} (h : Rising l) : merged [l] = l := by
 rw [merged_cons]
 exact over_nil h
theorem rising_filter {l : List Ch} (h : Rising l) (p : Ch → Bool) : Rising (l.filter p) := h.sublist List.filter_sublist
theorem getIn_filter {l : List Ch} (q : List UInt8 → Bool) (k : List UInt8) : getIn (l.filter (fun c => q c.key)) k = if q k then getIn l k else none := by
 induction l with
 | nil => simp [getIn]
 | cons x r ih =>
   by_cases hx : q x.key = true
   · rw [List.filter_cons_of_pos (by exact hx), getIn_cons, getIn_cons, ih]
     by_cases hk : x.key = k
     · rw [if_pos hk, if_pos hk, ← hk, hx]; rfl
     · rw [if_neg hk, if_neg hk]
   · rw [List.filter_cons_of_neg (by exact hx), ih, getIn_cons]
     by_cases hk : x.key = k
     · rw [if_pos hk, ← hk]; simp at hx; simp [hx]
     · rw [if_neg hk]
theorem merged_filter {ls : List (List Ch)} (h : ∀ l ∈ ls, Rising l) (q : List UInt8 → Bool) : merged (ls.map (fun l => l.filter (fun c => q c.key))) = (merged ls).filter (fun c => q c.key) := by
 refine rising_ext (merged_rising _) (rising_filter (merged_rising _) _) (fun k => ?_)
 rw [getIn_filter q, getIn_merged h, getIn_merged (fun l hl => by obtain ⟨x, hx, rfl⟩ := List.mem_map.1 hl; exact rising_filter (h x hx) _)]
 induction ls with
 | nil => simp [firstIn]
 | cons l ls ih =>
   rw [List.map_cons, firstIn_cons, firstIn_cons, ih (fun x hx => h x (List.mem_cons_of_mem _ hx)), getIn_filter q]
   cases q k <;> simp
structure Source where
 entries : List Ch
 age : Nat
def Source.top (s : Source) : List UInt8 := (s.entries.head?.map Ch.key).getD []
def Source.less (a b : Source) : Bool := decide (a.top < b.top) || (decide (a.top = b.top) && decide (a.age < b.age))
theorem Source.less_irrefl (a : Source) : a.less a = false := by simp [Source.less, List.lt_irrefl]
theorem Source.less_trans {a b c : Source} (h : a.less b = true) (k : b.less c = true) : a.less c = true := by
 simp [Source.less] at h k ⊢
 rcases h with h | ⟨h, h'⟩
 · rcases k with k | ⟨k, _⟩
   · exact .inl (List.lt_trans h k)
   · exact .inl (k ▸ h)
 · rcases k with k | ⟨k, k'⟩
   · exact .inl (h ▸ k)
   · exact .inr ⟨h.trans k, by omega⟩
def Source.le (a b : Source) : Prop := b.less a = false
theorem Source.le_refl (a : Source) : a.le a := a.less_irrefl
theorem Source.le_of_less {a b : Source} (h : a.less b = true) : a.le b := by
 unfold Source.le
 cases e : b.less a with
 | false => rfl
 | true => have := Source.less_trans h e; rw [Source.less_irrefl] at this; cases this
theorem Source.le_trans {a b c : Source} (h : a.le b) (k : b.le c) : a.le c := by
 unfold Source.le at *
 cases e : c.less a with
 | false => rfl
 | true =>
   simp [Source.less] at h k e
   rcases e with e | ⟨e, e'⟩
   · rcases key_cases a.top b.top with q | q | q
     · exact (k.1 (List.lt_trans e q)).elim
     · exact (k.1 (q ▸ e)).elim
     · exact (h.1 q).elim
   · rcases key_cases a.top b.top with q | q | q
     · exact (k.1 (e ▸ q)).elim
     · have h1 := h.2 q.symm
       have h2 := k.2 (e.trans q)
       omega
     · exact (h.1 q).elim
def HeapTo (l : List Source) (n : Nat) : Prop := ∀ (j : Nat) (a b : Source), 0 < j → j < n → l[(j - 1) / 2]? = some a → l[j]? = some b → a.le b
structure UpInv (l : List Source) (j : Nat) : Prop where
 other : ∀ (k : Nat) (a b : Source), 0 < k → k ≠ j → l[(k - 1) / 2]? = some a → l[k]? = some b → a.le b
 below : ∀ (k : Nat) (a b : Source), 0 < k → 0 < j → (k - 1) / 2 = j → l[(j - 1) / 2]? = some a → l[k]? = some b → a.le b
theorem swap_at {l : List Source} {i j : Nat} {a b : Source} (hi : i < l.length) (hj : j < l.length) (hne : i ≠ j) (k : Nat) :
   ((l.set i b).set j a)[k]? = if k = j then some a else if k = i then some b else l[k]? := by
 rw [List.getElem?_set]
 by_cases h1 : j = k
 · rw [if_pos h1, if_pos (by simpa using hj), if_pos h1.symm]
 · rw [if_neg h1, if_neg (fun e : k = j => h1 e.symm), List.getElem?_set]
   by_cases h2 : i = k
   · rw [if_pos h2, if_pos hi, if_pos h2.symm]
   · rw [if_neg h2, if_neg (fun e : k = i => h2 e.symm)]
theorem lt_of_at {l : List Source} {i : Nat} {a : Source} (h : l[i]? = some a) : i < l.length := (List.getElem?_eq_some_iff.1 h).1
theorem UpInv.start {l : List Source} {x : Source} (h : HeapTo l l.length) : UpInv (l ++ [x]) l.length := by
 refine ⟨fun k a b h0 hk ha hb => ?_, fun k a b h0 h1 hk ha hb => ?_⟩
 · have hk2 := lt_of_at hb
   simp at hk2
   rw [List.getElem?_append_left (by omega)] at ha hb
   exact h k a b h0 (by omega) ha hb
 · have hk2 := lt_of_at hb
   simp at hk2
   omega
theorem UpInv.done {l : List Source} {j : Nat} (h : UpInv l j) (hj : j = 0 ∨ ∃ a b, l[(j - 1) / 2]? = some a ∧ l[j]? = some b ∧ b.less a = false) : HeapTo l l.length := by
 intro k a b h0 hk ha hb
 by_cases e : k = j
 · subst e
   rcases hj with hj | ⟨x, y, hx, hy, hl⟩
   · omega
   · rw [ha] at hx; cases hx
     rw [hb] at hy; cases hy
     exact hl
 · exact h.other k a b h0 e ha hb
theorem UpInv.step {l : List Source} {j : Nat} {a b : Source} (h : UpInv l j) (hj : 0 < j) (ha : l[(j - 1) / 2]? = some a) (hb : l[j]? = some b) (hl : b.less a = true) : UpInv ((l.set ((j - 1) / 2) b).set j a) ((j - 1) / 2) := by
 have hi' := lt_of_at ha
 have hj' := lt_of_at hb
 have hne : (j - 1) / 2 ≠ j := by omega
 have hba := Source.le_of_less hl
 refine ⟨fun k x y h0 hk hx hy => ?_, fun k x y h0 h1 hk hx hy => ?_⟩
 · rw [swap_at hi' hj' hne] at hx hy
   by_cases e1 : k = j
   · subst e1
     rw [if_neg hne, if_pos rfl] at hx
     rw [if_pos rfl] at hy
     cases hx; cases hy
     exact hba
   · rw [if_neg e1, if_neg hk] at hy
     by_cases e2 : (k - 1) / 2 = j
     · rw [if_pos e2] at hx
       cases hx
       exact h.below k _ y h0 hj e2 ha hy
     · rw [if_neg e2] at hx
       by_cases e3 : (k - 1) / 2 = (j - 1) / 2
       · rw [if_pos e3] at hx
         cases hx
         exact Source.le_trans hba (h.other k a y h0 e1 (e3 ▸ ha) hy)
       · rw [if_neg e3] at hx
         exact h.other k x y h0 e1 hx hy
 · rw [swap_at hi' hj' hne] at hx hy
   rw [if_neg (by omega), if_neg (by omega)] at hx
   have hpa := h.other _ _ _ h1 hne hx ha
   by_cases e1 : k = j
   · rw [if_pos e1] at hy
     cases hy
     exact hpa
   · rw [if_neg e1, if_neg (by omega)] at hy
     exact Source.le_trans hpa (h.other k a y h0 e1 (hk ▸ ha) hy)
structure DownInv (l : List Source) (i n : Nat) : Prop where
 other : ∀ (k : Nat) (a b : Source), 0 < k → k < n → (k - 1) / 2 ≠ i → l[(k - 1) / 2]? = some a → l[k]? = some b → a.le b
 below : ∀ (k : Nat) (a b : Source), 0 < k → k < n → 0 < i → (k - 1) / 2 = i → l[(i - 1) / 2]? = some a → l[k]? = some b → a.le b
theorem DownInv.start {l : List Source} {n : Nat} {x : Source} (h : HeapTo l n) : DownInv (l.set 0 x) 0 n := by
 refine ⟨fun k a b h0 hk hne ha hb => ?_, fun k a b h0 hk hi _ _ _ => by omega⟩
 rw [List.getElem?_set_ne (by omega)] at ha hb
 exact h k a b h0 hk ha hb
theorem DownInv.none {l : List Source} {i n : Nat} (h : DownInv l i n) (hj : n ≤ 2 * i + 1) : HeapTo l n := by
 intro k a b h0 hk ha hb
 exact h.other k a b h0 hk (by omega) ha hb
theorem DownInv.done {l : List Source} {i j n : Nat} {a b : Source} (h : DownInv l i n) (hj : j = 2 * i + 1 ∨ j = 2 * i + 2) (hjn : j < n) (ha : l[i]? = some a) (hb : l[j]? = some b) (hl : b.less a = false)
   (hs : ∀ k c, (k = 2 * i + 1 ∨ k = 2 * i + 2) → k < n → l[k]? = some c → b.le c) : HeapTo l n := by
 intro k x y h0 hk hx hy
 by_cases e : (k - 1) / 2 = i
 · rw [e, ha] at hx
   cases hx
   exact Source.le_trans (b := b) hl (hs k y (by omega) hk hy)
 · exact h.other k x y h0 hk e hx hy
theorem DownInv.step {l : List Source} {i j n : Nat} {a b : Source} (h : DownInv l i n) (hj : j = 2 * i + 1 ∨ j = 2 * i + 2) (hjn : j < n) (ha : l[i]? = some a) (hb : l[j]? = some b) (hl : b.less a = true)
   (hs : ∀ k c, (k = 2 * i + 1 ∨ k = 2 * i + 2) → k < n → l[k]? = some c → b.le c) : DownInv ((l.set i b).set j a) j n := by
 have hi' := lt_of_at ha
 have hj' := lt_of_at hb
 have hne : i ≠ j := by omega
 have hba := Source.le_of_less hl
 refine ⟨fun k x y h0 hk hkj hx hy => ?_, fun k x y h0 hk h1 hkj hx hy => ?_⟩
 · rw [swap_at hi' hj' hne] at hx hy
   rw [if_neg hkj] at hx
   by_cases e1 : (k - 1) / 2 = i
   · rw [if_pos e1] at hx
     cases hx
     by_cases e2 : k = j
     · rw [if_pos e2] at hy
       cases hy
       exact hba
     · rw [if_neg e2, if_neg (by omega)] at hy
       exact hs k y (by omega) hk hy
   · rw [if_neg e1] at hx
     by_cases e2 : k = j
     · omega
     · rw [if_neg e2] at hy
       by_cases e3 : k = i
       · rw [if_pos e3] at hy
         cases hy
         subst e3
         exact h.below j x b (by omega) hjn h0 (by omega) hx hb
       · rw [if_neg e3] at hy
         exact h.other k x y h0 hk e1 hx hy
 · rw [swap_at hi' hj' hne] at hx hy
   rw [if_neg (by omega), if_pos (by omega)] at hx
   cases hx
   rw [if_neg (by omega), if_neg (by omega)] at hy
   exact h.other k b y h0 hk (by omega) (hkj ▸ hb) hy
theorem HeapTo.top {s : Source} {r : List Source} (h : HeapTo (s :: r) (s :: r).length) : ∀ t ∈ s :: r, s.le t := by
 have H : ∀ (n k : Nat) (t : Source), k ≤ n → (s :: r)[k]? = some t → s.le t := by
   intro n
   induction n with
   | zero => intro k t hk ht; obtain rfl : k = 0 := by omega
             cases ht; exact Source.le_refl _
   | succ n ih =>
     intro k t hk ht
     by_cases h0 : k = 0
     · subst h0; cases ht; exact Source.le_refl _
     · have hlt := lt_of_at ht
       obtain ⟨a, ha⟩ : ∃ a, (s :: r)[(k - 1) / 2]? = some a := ⟨_, List.getElem?_eq_getElem (by omega)⟩
       exact Source.le_trans (ih _ a (by omega) ha) (h k a t (by omega) hlt ha ht)
 intro t ht
 obtain ⟨k, hk, e⟩ := List.getElem_of_mem ht
 exact H k k t (Nat.le_refl _) (by rw [List.getElem?_eq_getElem hk, e])
structure Fine (hs : List Source) (last : List UInt8) : Prop where
 some : ∀ s ∈ hs, s.entries ≠ []
 rising : ∀ s ∈ hs, Rising s.entries
 ages : hs.Pairwise (fun s t => s.age ≠ t.age)
 keys : ∀ s ∈ hs, ∀ c ∈ s.entries, ¬ c.key < last
structure Tells (hs : List Source) (last : List UInt8) (L : List Ch) : Prop where
 rising : Rising L
 behind : ∀ c ∈ L, last < c.key
 has : ∀ k c, last < k → (getIn L k = Option.some c ↔ ∃ s ∈ hs, getIn s.entries k = Option.some c ∧ ∀ t ∈ hs, t.age < s.age → getIn t.entries k = none)
theorem Fine.perm {hs gs : List Source} {last : List UInt8} (h : Fine hs last) (p : hs.Perm gs) : Fine gs last :=
 ⟨fun s hs' => h.some s (p.mem_iff.2 hs'), fun s hs' => h.rising s (p.mem_iff.2 hs'), (p.pairwise_iff (fun e => Ne.symm e)).1 h.ages, fun s hs' => h.keys s (p.mem_iff.2 hs')⟩
theorem Tells.perm {hs gs : List Source} {last : List UInt8} {L : List Ch} (h : Tells hs last L) (p : hs.Perm gs) : Tells gs last L := by
 refine ⟨h.rising, h.behind, fun k c hk => (h.has k c hk).trans ?_⟩
 constructor
 · rintro ⟨s, hs', h1, h2⟩; exact ⟨s, p.mem_iff.1 hs', h1, fun t ht => h2 t (p.mem_iff.2 ht)⟩
 · rintro ⟨s, hs', h1, h2⟩; exact ⟨s, p.mem_iff.2 hs', h1, fun t ht => h2 t (p.mem_iff.1 ht)⟩
def taken (s : Source) (r : List Source) : List Source := if s.entries.tail = [] then r else ⟨s.entries.tail, s.age⟩ :: r
theorem top_cons {s : Source} {c : Ch} {q : List Ch} (h : s.entries = c :: q) : s.top = c.key := by simp [Source.top, h]
theorem Fine.next {s : Source} {r : List Source} {last : List UInt8} {c : Ch} {q : List Ch} (h : Fine (s :: r) last) (hs : s.entries = c :: q) (hm : ∀ t ∈ s :: r, s.le t) :
   Fine (taken s r) c.key ∧ Fine (taken s r) last := by
 have hq : Rising s.entries := h.rising s List.mem_cons_self
 rw [hs] at hq
 unfold Rising at hq
 rw [List.pairwise_cons] at hq
 have ha := h.ages
 rw [List.pairwise_cons] at ha
 have hlow : ∀ t ∈ r, ∀ x ∈ t.entries, ¬ x.key < c.key := by
   intro t ht x hx hlt
   have hle : s.le t := hm t (List.mem_cons_of_mem _ ht)
   unfold Source.le Source.less at hle
   simp only [Bool.or_eq_false_iff, decide_eq_false_iff_not] at hle
   have hr : Rising t.entries := h.rising t (List.mem_cons_of_mem _ ht)
   cases he : t.entries with
   | nil => rw [he] at hx; cases hx
   | cons y z =>
     rw [top_cons he, top_cons hs] at hle
     rw [he] at hx hr
     unfold Rising at hr
     rw [List.pairwise_cons] at hr
     rcases List.mem_cons.1 hx with rfl | hx
     · exact hle.1 hlt
     · exact hle.1 (List.lt_trans (hr.1 x hx) hlt)
 have main : ∀ K, (∀ t ∈ r, ∀ x ∈ t.entries, ¬ x.key < K) → (∀ x ∈ q, ¬ x.key < K) → Fine (taken s r) K := by
   intro K k1 k2
   unfold taken
   split
   · exact ⟨fun t ht => h.some t (List.mem_cons_of_mem _ ht), fun t ht => h.rising t (List.mem_cons_of_mem _ ht), ha.2, k1⟩
   · rename_i hne
     refine ⟨fun t ht => ?_, fun t ht => ?_, List.pairwise_cons.2 ⟨ha.1, ha.2⟩, fun t ht => ?_⟩
     all_goals rcases List.mem_cons.1 ht with rfl | ht
     · exact hne
     · exact h.some t (List.mem_cons_of_mem _ ht)
     · rw [hs]; exact hq.2
     · exact h.rising t (List.mem_cons_of_mem _ ht)
     · intro x hx; rw [hs] at hx; exact k2 x hx
     · exact k1 t ht
 refine ⟨main _ hlow (fun x hx => key_not (hq.1 x hx)), main _ (fun t ht => h.keys t (List.mem_cons_of_mem _ ht)) (fun x hx => h.keys s List.mem_cons_self x (by rw [hs]; exact List.mem_cons_of_mem _ hx))⟩
theorem taken_has {s : Source} {r : List Source} {c : Ch} {q : List Ch} (hs : s.entries = c :: q) {k : List UInt8} (hk : c.key ≠ k) (x : Ch) :
   (∃ t ∈ taken s r, getIn t.entries k = some x ∧ ∀ u ∈ taken s r, u.age < t.age → getIn u.entries k = none) ↔
   (∃ t ∈ s :: r, getIn t.entries k = some x ∧ ∀ u ∈ s :: r, u.age < t.age → getIn u.entries k = none) := by
 have e : getIn s.entries k = getIn q k := by rw [hs, getIn_cons, if_neg hk]
 unfold taken
 rw [hs, List.tail_cons]
 by_cases hq : q = []
 · rw [if_pos hq]
   have e2 : getIn s.entries k = none := by rw [e, hq]; rfl
   constructor
   · rintro ⟨t, ht, h1, h2⟩
     refine ⟨t, List.mem_cons_of_mem _ ht, h1, fun u hu hlt => ?_⟩
     rcases List.mem_cons.1 hu with rfl | hu
     · exact e2
     · exact h2 u hu hlt
   · rintro ⟨t, ht, h1, h2⟩
     rcases List.mem_cons.1 ht with rfl | ht
     · rw [e2] at h1; cases h1
     · exact ⟨t, ht, h1, fun u hu => h2 u (List.mem_cons_of_mem _ hu)⟩
 · rw [if_neg hq]
   constructor
   · rintro ⟨t, ht, h1, h2⟩
     have H : ∀ a, (∀ u ∈ (⟨q, s.age⟩ : Source) :: r, u.age < a → getIn u.entries k = none) → ∀ u ∈ s :: r, u.age < a → getIn u.entries k = none := by
       intro a h u hu hlt
       rcases List.mem_cons.1 hu with rfl | hu
       · rw [e]; exact h ⟨q, u.age⟩ List.mem_cons_self hlt
       · exact h u (List.mem_cons_of_mem _ hu) hlt
     rcases List.mem_cons.1 ht with rfl | ht
     · exact ⟨s, List.mem_cons_self, e.trans h1, H _ h2⟩
     · exact ⟨t, List.mem_cons_of_mem _ ht, h1, H _ h2⟩
   · rintro ⟨t, ht, h1, h2⟩
     have H : ∀ a, (∀ u ∈ s :: r, u.age < a → getIn u.entries k = none) → ∀ u ∈ (⟨q, s.age⟩ : Source) :: r, u.age < a → getIn u.entries k = none := by
       intro a h u hu hlt
       rcases List.mem_cons.1 hu with rfl | hu
       · exact e.symm.trans (h s List.mem_cons_self hlt)
       · exact h u (List.mem_cons_of_mem _ hu) hlt
     rcases List.mem_cons.1 ht with rfl | ht
     · exact ⟨⟨q, t.age⟩, List.mem_cons_self, e.symm.trans h1, H _ h2⟩
     · exact ⟨t, List.mem_cons_of_mem _ ht, h1, H _ h2⟩
theorem Tells.again {s : Source} {r : List Source} {last : List UInt8} {c : Ch} {q L : List Ch} (h : Tells (s :: r) last L) (hs : s.entries = c :: q) (hc : c.key = last) : Tells (taken s r) last L := by
 refine ⟨h.rising, h.behind, fun k x hk => ?_⟩
 rw [h.has k x hk, taken_has hs (fun e => key_ne hk (hc.symm.trans e))]
theorem Tells.next {s : Source} {r : List Source} {last : List UInt8} {c : Ch} {q L : List Ch} (F : Fine (s :: r) last) (h : Tells (s :: r) last L) (hs : s.entries = c :: q) (hm : ∀ t ∈ s :: r, s.le t) (hc : c.key ≠ last) :
   last < c.key ∧ ∃ M, L = c :: M ∧ Tells (taken s r) c.key M := by
 have hlt : last < c.key := by
   rcases key_cases last c.key with h1 | h1 | h1
   · exact h1
   · exact (hc h1.symm).elim
   · exact (F.keys s List.mem_cons_self c (by rw [hs]; exact List.mem_cons_self) h1).elim
 have hget : getIn L c.key = some c := by
   rw [h.has _ _ hlt]
   refine ⟨s, List.mem_cons_self, by rw [hs, getIn_cons, if_pos rfl], fun t ht hage => ?_⟩
   cases he : getIn t.entries c.key with
   | none => rfl
   | some x =>
     have hx := getIn_mem he
     have hk := getIn_key he
     have hle := hm t ht
     have hr := F.rising t ht
     cases he2 : t.entries with
     | nil => rw [he2] at hx; cases hx
     | cons y z =>
       unfold Source.le Source.less at hle
       simp only [Bool.or_eq_false_iff, decide_eq_false_iff_not, Bool.and_eq_false_iff] at hle
       rw [top_cons he2, top_cons hs] at hle
       rw [he2] at hx hr
       unfold Rising at hr
       rw [List.pairwise_cons] at hr
       rcases List.mem_cons.1 hx with rfl | hx
       · rcases hle.2 with h1 | h1
         · exact (h1 hk).elim
         · exact (h1 hage).elim
       · exact (hle.1 (hk ▸ hr.1 x hx)).elim
 have Fn := (F.next hs hm).1
 have hmin : ∀ x ∈ L, ¬ x.key < c.key := by
   intro x hx hlt2
   obtain ⟨t, ht, h1, _⟩ := (h.has x.key x (h.behind x hx)).1 (getIn_rising h.rising hx)
   have hx2 := getIn_mem h1
   rcases List.mem_cons.1 ht with rfl | ht2
   · rw [hs] at hx2
     have hq : Rising t.entries := F.rising t List.mem_cons_self
     rw [hs] at hq
     unfold Rising at hq
     rw [List.pairwise_cons] at hq
     rcases List.mem_cons.1 hx2 with rfl | hx2
     · exact List.lt_irrefl _ hlt2
     · exact key_not (hq.1 x hx2) hlt2
   · have : t ∈ taken s r := by
       unfold taken
       split
       · exact ht2
       · exact List.mem_cons_of_mem _ ht2
     exact Fn.keys t this x hx2 hlt2
 refine ⟨hlt, ?_⟩
 cases L with
 | nil => cases hget
 | cons y M =>
   have hr := h.rising
   unfold Rising at hr
   rw [List.pairwise_cons] at hr
   have ey : y = c := by
     rw [getIn_cons] at hget
     split at hget
     · exact Option.some.inj hget
     · exact (hmin y List.mem_cons_self (by have := hr.1 c (getIn_mem hget); exact this)).elim
   subst ey
   refine ⟨M, rfl, hr.2, hr.1, fun k x hk => ?_⟩
   rw [taken_has hs (key_ne hk), ← h.has k x (List.lt_trans hlt hk), getIn_cons, if_neg (key_ne hk)]
theorem Tells.nil {last : List UInt8} {L : List Ch} (h : Tells [] last L) : L = [] := by
 cases L with
 | nil => rfl
 | cons x r =>
   obtain ⟨s, hs, _⟩ := (h.has x.key x (h.behind x List.mem_cons_self)).1 (getIn_rising h.rising List.mem_cons_self)
   cases hs
def sourcesFrom : Nat → List (List Ch) → List Source
 | _, [] => []
 | n, l :: ls => if l = [] then sourcesFrom (n + 1) ls else ⟨l, n⟩ :: sourcesFrom (n + 1) ls
theorem sourcesFrom_age {n : Nat} {ls : List (List Ch)} : ∀ s ∈ sourcesFrom n ls, n ≤ s.age := by
 induction ls generalizing n with
 | nil => intro s hs; cases hs
 | cons l ls ih =>
   intro s hs
   unfold sourcesFrom at hs
   split at hs
   · have := ih s hs; omega
   · rcases List.mem_cons.1 hs with rfl | hs
     · exact Nat.le_refl _
     · have := ih s hs; omega
theorem sources_fine {n : Nat} {ls : List (List Ch)} (h : ∀ l ∈ ls, Rising l) : Fine (sourcesFrom n ls) [] := by
 induction ls generalizing n with
 | nil => exact ⟨fun s hs => (by cases hs), fun s hs => (by cases hs), List.Pairwise.nil, fun s hs => (by cases hs)⟩
 | cons l ls ih =>
   have I := ih (n := n + 1) (fun x hx => h x (List.mem_cons_of_mem _ hx))
   unfold sourcesFrom
   split
   · exact I
   · rename_i hne
     refine ⟨fun s hs => ?_, fun s hs => ?_, List.pairwise_cons.2 ⟨fun t ht => ?_, I.ages⟩, fun s hs c hc hlt => List.not_lt_nil _ hlt⟩
     · rcases List.mem_cons.1 hs with rfl | hs
       · exact hne
       · exact I.some s hs
     · rcases List.mem_cons.1 hs with rfl | hs
       · exact h l List.mem_cons_self
       · exact I.rising s hs
     · have := sourcesFrom_age t ht
       show n ≠ t.age
       omega
theorem sources_first {n : Nat} {ls : List (List Ch)} (k : List UInt8) (c : Ch) : firstIn ls k = some c ↔ ∃ s ∈ sourcesFrom n ls, getIn s.entries k = some c ∧ ∀ t ∈ sourcesFrom n ls, t.age < s.age → getIn t.entries k = none := by
 induction ls generalizing n with
 | nil => simp [firstIn, sourcesFrom]
 | cons l ls ih =>
   rw [firstIn_cons]
   unfold sourcesFrom
   split
   · rename_i hl
     rw [hl]
     show ((none : Option Ch).or _) = _ ↔ _
     rw [Option.none_or]
     exact ih
   · cases hg : getIn l k with
     | some x =>
       rw [Option.some_or]
       constructor
       · intro e
         cases e
         refine ⟨⟨l, n⟩, List.mem_cons_self, hg, fun t ht hlt => ?_⟩
         rcases List.mem_cons.1 ht with rfl | ht
         · exact (Nat.lt_irrefl _ hlt).elim
         · have := sourcesFrom_age t ht
           exact absurd hlt (by show ¬ t.age < n; omega)
       · rintro ⟨s, hs, h1, h2⟩
         rcases List.mem_cons.1 hs with rfl | hs
         · exact hg.symm.trans h1
         · have := sourcesFrom_age s hs
           have h3 := h2 ⟨l, n⟩ List.mem_cons_self (by show n < s.age; omega)
           rw [hg] at h3; cases h3
     | none =>
       rw [Option.none_or, ih (n := n + 1)]
       constructor
       · rintro ⟨s, hs, h1, h2⟩
         refine ⟨s, List.mem_cons_of_mem _ hs, h1, fun t ht hlt => ?_⟩
         rcases List.mem_cons.1 ht with rfl | ht
         · exact hg
         · exact h2 t ht hlt
       · rintro ⟨s, hs, h1, h2⟩
         rcases List.mem_cons.1 hs with rfl | hs
         · rw [hg] at h1; cases h1
         · exact ⟨s, hs, h1, fun t ht => h2 t (List.mem_cons_of_mem _ ht)⟩
theorem sources_tell {n : Nat} {ls : List (List Ch)} (h : ∀ l ∈ ls, Rising l) (hk : ∀ l ∈ ls, ∀ c ∈ l, c.key ≠ []) : Tells (sourcesFrom n ls) [] (merged ls) := by
 refine ⟨merged_rising ls, fun c hc => ?_, fun k c _ => ?_⟩
 · have h1 := getIn_rising (merged_rising ls) hc
   rw [getIn_merged h, sources_first (n := n)] at h1
   obtain ⟨s, hs, h2, hrest⟩ := h1
   clear hrest
   have : ∃ l ∈ ls, s.entries = l := by
     clear h2 h hk hc
     induction ls generalizing n with
     | nil => cases hs
     | cons l ls ih =>
       unfold sourcesFrom at hs
       split at hs
       · obtain ⟨x, hx, e⟩ := ih hs; exact ⟨x, List.mem_cons_of_mem _ hx, e⟩
       · rcases List.mem_cons.1 hs with rfl | hs
         · exact ⟨l, List.mem_cons_self, rfl⟩
         · obtain ⟨x, hx, e⟩ := ih hs; exact ⟨x, List.mem_cons_of_mem _ hx, e⟩
   obtain ⟨l, hl, e⟩ := this
   have hne := hk l hl c (e ▸ getIn_mem h2)
   cases hkc : c.key with
   | nil => exact (hne hkc).elim
   | cons a b => exact List.nil_lt_cons _ _
 · rw [getIn_merged h]
   exact sources_first k c
def chunks : List Ch → List (List Ch)
 | [] => []
 | a :: b :: c :: d :: r => [a, b, c, d] :: chunks r
 | l => [l]
def blockBytes (b : List Ch) : List UInt8 := frame (big b.length 1 ++ b.flatMap entry)
def firstKey (b : List Ch) : List UInt8 := (b.head?.map Ch.key).getD []
def placeBytes (p : Nat × List UInt8) : List UInt8 := big p.1 4 ++ text p.2
def placeList : Nat → List (List Ch) → List (Nat × List UInt8)
 | _, [] => []
 | n, b :: r => (n, firstKey b) :: placeList (n + (blockBytes b).length) r
def runOf (bl : List (List Ch)) : List UInt8 := bl.flatMap blockBytes ++ frame (big bl.length 2 ++ (placeList 0 bl).flatMap placeBytes) ++ big (bl.flatMap blockBytes).length 4
def runBytes (l : List Ch) : List UInt8 := runOf (chunks l)
theorem chunks_flat (l : List Ch) : (chunks l).flatten = l := by
 induction l using chunks.induct with
 | case1 => rfl
 | case2 a b c d r ih => rw [chunks]; simp [ih]
 | case3 l h1 h2 => 
   rw [chunks]
   · simp
   · exact h1
   · exact h2
theorem chunks_nil {l : List Ch} : chunks l = [] ↔ l = [] := by
 constructor
 · intro h
   have := chunks_flat l
   rw [h] at this
   exact this.symm
 · intro h; rw [h]; rfl
theorem chunks_len {l b : List Ch} (h : b ∈ chunks l) : 1 ≤ b.length ∧ b.length ≤ 4 := by
 induction l using chunks.induct with
 | case1 => cases h
 | case2 a b' c d r ih =>
   rw [chunks] at h
   rcases List.mem_cons.1 h with rfl | h
   · simp
   · exact ih h
 | case3 l h1 h2 =>
   rw [chunks] at h
   · rw [List.mem_singleton] at h
     subst h
     match b, h1, h2 with
     | [], h1, _ => exact (h1 rfl).elim
     | [a], _, _ => simp
     | [a, b], _, _ => simp
     | [a, b, c], _, _ => simp
     | a :: b :: c :: d :: r, _, h2 => exact (h2 a b c d r rfl).elim
   · exact h1
   · exact h2
theorem chunks_mem {l b : List Ch} (h : b ∈ chunks l) : ∀ c ∈ b, c ∈ l := by
 intro c hc
 rw [← chunks_flat l]
 exact List.mem_flatten.2 ⟨b, h, hc⟩
theorem chunks_step {l : List Ch} (h : l ≠ []) : chunks l = l.take 4 :: chunks (l.drop 4) := by
 match l, h with
 | [], h => exact (h rfl).elim
 | [a], _ => rfl
 | [a, b], _ => rfl
 | [a, b, c], _ => rfl
 | a :: b :: c :: d :: r, _ => rw [chunks]; simp
theorem chunks_length (l : List Ch) : (chunks l).length = (l.length + 3) / 4 := by
 induction l using chunks.induct with
 | case1 => rfl
 | case2 a b c d r ih => rw [chunks]; simp [ih]; omega
 | case3 l h1 h2 =>
   match l, h1, h2 with
   | [], h1, _ => exact (h1 rfl).elim
   | [a], _, _ => simp [chunks]
   | [a, b], _, _ => simp [chunks]
   | [a, b, c], _, _ => simp [chunks]
   | a :: b :: c :: d :: r, _, h2 => exact (h2 a b c d r rfl).elim
def takePlace (footer : Nat) (l : List UInt8) : Option ((Nat × List UInt8) × List UInt8) :=
 if 4 ≤ l.length ∧ number (l.take 4) ≤ footer then
   match takeText (l.drop 4) with
   | some (t, q) => some ((number (l.take 4), t), q)
   | none => none
 else none
def takePlaces (footer : Nat) : Nat → List UInt8 → Option (List (Nat × List UInt8) × List UInt8)
 | 0, l => some ([], l)
 | n + 1, l =>
   match takePlace footer l with
   | none => none
   | some (p, r) =>
     match takePlaces footer n r with
     | none => none
     | some (ps, q) => some (p :: ps, q)
def joined (ps : List (Nat × List UInt8)) : Bool := decide ((ps.head?.map Prod.fst) = some 0) && decide (ps.Pairwise (fun a b => a.1 ≤ b.1))
def readPlaces (footer : Nat) (l : List UInt8) : Option (List (Nat × List UInt8)) :=
 if 2 ≤ l.length ∧ number (l.take 2) ≠ 0 then
   match takePlaces footer (number (l.take 2)) (l.drop 2) with
   | some (ps, []) => if joined ps then some ps else none
   | _ => none
 else none
def readRun (b : List UInt8) : Option (Nat × List (Nat × List UInt8)) :=
 if 4 ≤ b.length ∧ number (b.drop (b.length - 4)) ≤ b.length - 4 then
   match takeFrame ((b.take (b.length - 4)).drop (number (b.drop (b.length - 4)))) with
   | some (h, []) =>
     match readPlaces (number (b.drop (b.length - 4))) h with
     | some ps => some (number (b.drop (b.length - 4)), ps)
     | none => none
   | _ => none
 else none
def stopOf (footer : Nat) (ps : List (Nat × List UInt8)) (i : Nat) : Nat := ((ps[i + 1]?).map Prod.fst).getD footer
def beginOf (ps : List (Nat × List UInt8)) (i : Nat) : Nat := ((ps[i]?).map Prod.fst).getD 0
def keyOf (ps : List (Nat × List UInt8)) (i : Nat) : List UInt8 := ((ps[i]?).map Prod.snd).getD []
def lastKey (b : List Ch) : List UInt8 := (b.getLast?.map Ch.key).getD []
def fits (ps : List (Nat × List UInt8)) (i : Nat) (es : List Ch) : Bool :=
 decide (firstKey es = keyOf ps i) && decide (es.Pairwise (fun a b => a.key < b.key)) && (decide (i + 1 = ps.length) || (decide (es.length = 4) && decide (lastKey es < keyOf ps (i + 1))))
def blockAt (b : List UInt8) (footer : Nat) (ps : List (Nat × List UInt8)) (i : Nat) : Option (List Ch) :=
 match takeFrame ((b.take (stopOf footer ps i)).drop (beginOf ps i)) with
 | some (h, []) =>
   match readEntries 4 h with
   | some es => if fits ps i es then some es else none
   | none => none
 | _ => none
theorem placeList_length (n : Nat) (bl : List (List Ch)) : (placeList n bl).length = bl.length := by
 induction bl generalizing n with
 | nil => rfl
 | cons b r ih => simp [placeList, ih]
theorem placeList_at (n : Nat) (bl : List (List Ch)) (i : Nat) : (placeList n bl)[i]? = (bl[i]?).map (fun b => (n + ((bl.take i).flatMap blockBytes).length, firstKey b)) := by
 induction bl generalizing n i with
 | nil => simp [placeList]
 | cons b r ih =>
   cases i with
   | zero => simp [placeList]
   | succ i =>
     rw [placeList, List.getElem?_cons_succ, ih, List.getElem?_cons_succ, List.take_succ_cons, List.flatMap_cons, List.length_append]
     cases r[i]? with
     | none => rfl
     | some x => simp only [Option.map_some]; rw [Nat.add_assoc]
theorem placeList_le (n : Nat) (bl : List (List Ch)) : ∀ p ∈ placeList n bl, n ≤ p.1 ∧ p.1 ≤ n + (bl.flatMap blockBytes).length := by
 intro p hp
 obtain ⟨i, hi, e⟩ := List.getElem_of_mem hp
 have h := placeList_at n bl i
 rw [List.getElem?_eq_getElem hi, e] at h
 rw [placeList_length] at hi
 rw [List.getElem?_eq_getElem hi] at h
 cases h
 have h2 : ((bl.take i).flatMap blockBytes).length ≤ (bl.flatMap blockBytes).length := by
   conv => rhs; rw [← List.take_append_drop i bl, List.flatMap_append, List.length_append]
   omega
 show n ≤ n + _ ∧ n + _ ≤ n + _
 omega
theorem placeList_mono (n : Nat) (bl : List (List Ch)) : (placeList n bl).Pairwise (fun a b => a.1 ≤ b.1) := by
 induction bl generalizing n with
 | nil => exact List.Pairwise.nil
 | cons b r ih =>
   refine List.pairwise_cons.2 ⟨fun p hp => ?_, ih _⟩
   have := (placeList_le _ _ p hp).1
   show n ≤ p.1
   omega
theorem takePlace_make {F : Nat} {p : Nat × List UInt8} (h1 : p.1 ≤ F) (h2 : p.1 < 256 ^ 4) (h3 : p.2.length < 256) (q : List UInt8) : takePlace F (placeBytes p ++ q) = some (p, q) := by
 have h4 : (big p.1 4).length = 4 := big_length _ _
 have e1 : (placeBytes p ++ q).take 4 = big p.1 4 := by
   unfold placeBytes
   rw [List.append_assoc, List.take_append_of_le_length (by omega), List.take_of_length_le (by omega)]
 have e2 : (placeBytes p ++ q).drop 4 = text p.2 ++ q := by
   unfold placeBytes
   rw [List.append_assoc, List.drop_append_of_le_length (by omega), List.drop_of_length_le (by omega), List.nil_append]
 have e3 : 4 ≤ (placeBytes p ++ q).length := by unfold placeBytes; simp [h4]
 unfold takePlace
 rw [e1, e2, number_big _ _ h2, if_pos ⟨e3, h1⟩, takeText_text h3]
theorem takePlaces_make {F : Nat} {ps : List (Nat × List UInt8)} (h : ∀ p ∈ ps, p.1 ≤ F ∧ p.1 < 256 ^ 4 ∧ p.2.length < 256) (q : List UInt8) : takePlaces F ps.length (ps.flatMap placeBytes ++ q) = some (ps, q) := by
 induction ps with
 | nil => simp [takePlaces]
 | cons p r ih =>
   obtain ⟨h1, h2, h3⟩ := h p List.mem_cons_self
   rw [List.length_cons, takePlaces, List.flatMap_cons, List.append_assoc, takePlace_make h1 h2 h3]
   simp only [ih (fun x hx => h x (List.mem_cons_of_mem _ hx))]
structure Laid (bl : List (List Ch)) : Prop where
 ne : bl ≠ []
 len : ∀ b ∈ bl, 1 ≤ b.length ∧ b.length ≤ 4
 full : ∀ (i : Nat) (b : List Ch), i + 1 < bl.length → bl[i]? = some b → b.length = 4
 ok : ∀ b ∈ bl, ∀ c ∈ b, allowed c = true
 rising : Rising bl.flatten
 small : (bl.flatMap blockBytes).length < 256 ^ 4 ∧ bl.length < 65536
theorem firstKey_len {b : List Ch} (h : ∀ c ∈ b, allowed c = true) : (firstKey b).length < 256 := by
 cases b with
 | nil => simp [firstKey]
 | cons c r =>
   have := (allowed_iff c).1 (h c List.mem_cons_self)
   show c.key.length < 256
   omega
theorem Laid.places {bl : List (List Ch)} (h : Laid bl) : readPlaces (bl.flatMap blockBytes).length (big bl.length 2 ++ (placeList 0 bl).flatMap placeBytes) = some (placeList 0 bl) := by
 have h2 : (big bl.length 2).length = 2 := big_length _ _
 have e1 : (big bl.length 2 ++ (placeList 0 bl).flatMap placeBytes).take 2 = big bl.length 2 := by
   rw [List.take_append_of_le_length (by omega), List.take_of_length_le (by omega)]
 have e2 : (big bl.length 2 ++ (placeList 0 bl).flatMap placeBytes).drop 2 = (placeList 0 bl).flatMap placeBytes := by
   rw [List.drop_append_of_le_length (by omega), List.drop_of_length_le (by omega), List.nil_append]
 have hne : bl.length ≠ 0 := fun e => h.ne (List.eq_nil_of_length_eq_zero e)
 have e3 : takePlaces (bl.flatMap blockBytes).length bl.length ((placeList 0 bl).flatMap placeBytes) = some (placeList 0 bl, []) := by
   have := takePlaces_make (F := (bl.flatMap blockBytes).length) (ps := placeList 0 bl) (fun p hp => ?_) []
   · rwa [List.append_nil, placeList_length] at this
   · have h5 := (placeList_le 0 bl p hp).2
     have hs := h.small.1
     refine ⟨by omega, by omega, ?_⟩
     obtain ⟨i, hi, e⟩ := List.getElem_of_mem hp
     have h6 := placeList_at 0 bl i
     rw [List.getElem?_eq_getElem hi, e] at h6
     rw [placeList_length] at hi
     rw [List.getElem?_eq_getElem hi] at h6
     cases h6
     exact firstKey_len (h.ok _ (List.getElem_mem hi))
 have e4 : joined (placeList 0 bl) = true := by
   unfold joined
   rw [Bool.and_eq_true]
   refine ⟨?_, by simpa using placeList_mono 0 bl⟩
   cases bl with
   | nil => exact (h.ne rfl).elim
   | cons b r => simp [placeList]
 unfold readPlaces
 rw [e1, e2, number_big _ _ h.small.2, if_pos ⟨by simp [h2], hne⟩, e3]
 simp only [e4, if_true]
theorem placeBytes_length {p : Nat × List UInt8} : (placeBytes p).length = 5 + p.2.length := by simp [placeBytes, text, big_length]; omega
theorem footer_short {bl : List (List Ch)} (h : Laid bl) : (big bl.length 2 ++ (placeList 0 bl).flatMap placeBytes).length < 256 ^ 4 := by
 have H : ∀ (ps : List (Nat × List UInt8)), (∀ p ∈ ps, p.2.length < 256) → (ps.flatMap placeBytes).length ≤ 261 * ps.length := by
   intro ps
   induction ps with
   | nil => simp
   | cons p r ih =>
     intro hp
     have h1 := ih (fun x hx => hp x (List.mem_cons_of_mem _ hx))
     have h2 := hp p List.mem_cons_self
     rw [List.flatMap_cons, List.length_append, placeBytes_length, List.length_cons]
     omega
 have h1 := H (placeList 0 bl) (fun p hp => by
   obtain ⟨i, hi, e⟩ := List.getElem_of_mem hp
   have h6 := placeList_at 0 bl i
   rw [List.getElem?_eq_getElem hi, e] at h6
   rw [placeList_length] at hi
   rw [List.getElem?_eq_getElem hi] at h6
   cases h6
   exact firstKey_len (h.ok _ (List.getElem_mem hi)))
 rw [placeList_length] at h1
 have h2 := h.small.2
 rw [List.length_append, big_length]
 omega
theorem Laid.read {bl : List (List Ch)} (h : Laid bl) : readRun (runOf bl) = some ((bl.flatMap blockBytes).length, placeList 0 bl) := by
 generalize hB : bl.flatMap blockBytes = B
 generalize hf : frame (big bl.length 2 ++ (placeList 0 bl).flatMap placeBytes) = f
 have hr : runOf bl = B ++ f ++ big B.length 4 := by unfold runOf; rw [hB, hf]
 have h4 : (big B.length 4).length = 4 := big_length _ _
 have hl : (runOf bl).length = B.length + f.length + 4 := by rw [hr]; simp [h4]; omega
 have hs := h.small.1
 rw [hB] at hs
 have e1 : (runOf bl).drop ((runOf bl).length - 4) = big B.length 4 := by
   rw [hl, hr, show B.length + f.length + 4 - 4 = (B ++ f).length by simp, List.drop_left]
 have e2 : (runOf bl).take ((runOf bl).length - 4) = B ++ f := by
   rw [hl, hr, show B.length + f.length + 4 - 4 = (B ++ f).length by simp, List.take_left]
 have e3 : takeFrame f = some (big bl.length 2 ++ (placeList 0 bl).flatMap placeBytes, []) := by
   have := takeFrame_frame (big bl.length 2 ++ (placeList 0 bl).flatMap placeBytes) [] (footer_short h)
   rwa [List.append_nil, hf] at this
 have e4 := h.places
 rw [hB] at e4
 unfold readRun
 rw [e1, e2, number_big _ _ hs, if_pos ⟨by omega, by omega⟩, List.drop_left, e3]
 simp only [e4]
theorem block_short {b : List Ch} (h1 : b.length ≤ 4) (h : ∀ c ∈ b, allowed c = true) : (big b.length 1 ++ b.flatMap entry).length < 256 ^ 4 := by
 have := flat_length h
 rw [List.length_append, big_length]
 omega
theorem rising_part {bl : List (List Ch)} (h : Rising bl.flatten) {b : List Ch} (hb : b ∈ bl) : Rising b := h.sublist (List.sublist_flatten_of_mem hb)
theorem Laid.block {bl : List (List Ch)} (h : Laid bl) {i : Nat} {b : List Ch} (hb : bl[i]? = some b) : blockAt (runOf bl) (bl.flatMap blockBytes).length (placeList 0 bl) i = some b := by
 have hi : i < bl.length := (List.getElem?_eq_some_iff.1 hb).1
 have hmem : b ∈ bl := List.mem_of_getElem? hb
 have hd : bl = bl.take i ++ b :: bl.drop (i + 1) := by
   have e : bl[i] = b := (List.getElem?_eq_some_iff.1 hb).2
   rw [← e, List.getElem_cons_drop, List.take_append_drop]
 have eb : beginOf (placeList 0 bl) i = ((bl.take i).flatMap blockBytes).length := by
   unfold beginOf
   rw [placeList_at, hb]
   simp
 have es : stopOf (bl.flatMap blockBytes).length (placeList 0 bl) i = ((bl.take i).flatMap blockBytes).length + (blockBytes b).length := by
   have e : ((bl.take (i + 1)).flatMap blockBytes).length = ((bl.take i).flatMap blockBytes).length + (blockBytes b).length := by
     rw [List.take_add_one, hb, Option.toList_some, List.flatMap_append, List.length_append]
     simp
   unfold stopOf
   rw [placeList_at]
   cases h2 : bl[i + 1]? with
   | some x => simp only [Option.map_some, Option.getD_some]; rw [e]; omega
   | none =>
     rw [List.getElem?_eq_none_iff] at h2
     rw [← e, List.take_of_length_le (by omega)]
     rfl
 have e3 : ((runOf bl).take (((bl.take i).flatMap blockBytes).length + (blockBytes b).length)).drop ((bl.take i).flatMap blockBytes).length = blockBytes b := by
   have e : runOf bl = ((bl.take i).flatMap blockBytes ++ blockBytes b) ++ ((bl.drop (i + 1)).flatMap blockBytes ++ frame (big bl.length 2 ++ (placeList 0 bl).flatMap placeBytes) ++ big (bl.flatMap blockBytes).length 4) := by
     unfold runOf
     conv => lhs; lhs; lhs; rw [hd]
     simp
   rw [e, show ((bl.take i).flatMap blockBytes).length + (blockBytes b).length = ((bl.take i).flatMap blockBytes ++ blockBytes b).length by simp, List.take_left, List.drop_left]
 have e4 : takeFrame (blockBytes b) = some (big b.length 1 ++ b.flatMap entry, []) := by
   have := takeFrame_frame (big b.length 1 ++ b.flatMap entry) [] (block_short (h.len b hmem).2 (h.ok b hmem))
   rwa [List.append_nil] at this
 have e5 := readEntries_make (h.len b hmem).1 (h.len b hmem).2 (by omega) (h.ok b hmem)
 have e6 : fits (placeList 0 bl) i b = true := by
   unfold fits
   rw [Bool.and_eq_true, Bool.and_eq_true]
   refine ⟨⟨?_, by simpa [Rising] using rising_part h.rising hmem⟩, ?_⟩
   · simp [keyOf, placeList_at, hb]
   · rw [placeList_length]
     by_cases hlast : i + 1 = bl.length
     · simp [hlast]
     · rw [Bool.or_eq_true]
       refine .inr ?_
       rw [Bool.and_eq_true]
       refine ⟨by simpa using h.full i b (by omega) hb, ?_⟩
       obtain ⟨x, hx⟩ : ∃ x, bl[i + 1]? = some x := ⟨_, List.getElem?_eq_getElem (by omega)⟩
       have hxm : x ∈ bl := List.mem_of_getElem? hx
       have ek : keyOf (placeList 0 bl) (i + 1) = firstKey x := by simp [keyOf, placeList_at, hx]
       rw [ek]
       have hd2 : bl.drop (i + 1) = x :: bl.drop (i + 2) := by
         have e : bl[i + 1] = x := (List.getElem?_eq_some_iff.1 hx).2
         rw [← e, List.getElem_cons_drop]
       have hr := h.rising
       rw [hd, hd2] at hr
       cases hxe : x with
       | nil => have := (h.len x hxm).1; rw [hxe] at this; simp at this
       | cons c y =>
         have hbl := (h.len b hmem).1
         have hbne : b ≠ [] := fun e => by rw [e] at hbl; simp at hbl
         have e7 : lastKey b = (b.getLast hbne).key := by unfold lastKey; rw [List.getLast?_eq_some_getLast hbne]; rfl
         rw [e7]
         unfold Rising at hr
         rw [List.flatten_append, List.flatten_cons, List.flatten_cons, List.pairwise_append] at hr
         have hr2 := hr.2.1
         rw [List.pairwise_append] at hr2
         rw [decide_eq_true_eq]
         simpa [firstKey] using hr2.2.2 (b.getLast hbne) (List.getLast_mem hbne) c (by rw [hxe]; simp)
 unfold blockAt
 rw [es, eb, e3, e4]
 simp only [e5, e6, if_true]
theorem chunks_full (l : List Ch) : ∀ (i : Nat) (b : List Ch), i + 1 < (chunks l).length → (chunks l)[i]? = some b → b.length = 4 := by
 induction l using chunks.induct with
 | case1 => intro i b hi _; simp [chunks] at hi
 | case2 a b' c d r ih =>
   intro i b hi hb
   rw [chunks] at hi hb
   cases i with
   | zero => cases hb; rfl
   | succ i => exact ih i b (by simpa using hi) (by simpa using hb)
 | case3 l h1 h2 =>
   intro i b hi
   rw [chunks] at hi
   · simp at hi
   · exact h1
   · exact h2
theorem laid_chunks {l : List Ch} (hne : l ≠ []) (hok : ∀ c ∈ l, allowed c = true) (hr : Rising l) (hs : ((chunks l).flatMap blockBytes).length < 256 ^ 4) (hn : l.length < 262140) : Laid (chunks l) :=
 ⟨fun e => hne (chunks_nil.1 e), fun b hb => chunks_len hb, chunks_full l, fun b hb c hc => hok c (chunks_mem hb c hc), by rw [chunks_flat]; exact hr, hs, by rw [chunks_length]; omega⟩
end Go.Proofs.YtnipbplghijdmaaGreatDoor.Ref
