/-
  La: FrameSum FrameNum Reader.
-/
import Derived.Laws.BitsAllLaws
import Derived.Deep.RegionLaw
import Derived.Maps.AppendAt
import Derived.Test.YtnipbplghijdmaaGreatDoorLa04
import Derived.Test.YtnipbplghijdmaaGreatDoorLa01
import Derived.Test.YtnipbplghijdmaaGreatDoorLa10
import Derived.Test.YtnipbplghijdmaaGreatDoorLa05
import Derived.Test.YtnipbplghijdmaaGreatDoorLa07
namespace Go.Proofs.YtnipbplghijdmaaGreatDoor
open Go.RowKit Go.Maps Go.WideShapes
set_option linter.unusedVariables false
theorem Ref.jha {c : Nat} (h : c < 4294967296) : Ref.bit c < 4294967296 := by
 unfold Ref.bit
 split
 · exact Nat.xor_lt_two_pow (n := 32) (by omega) (by omega)
 · omega
theorem Ref.jgd {k c : Nat} (h : c < 4294967296) : Ref.bits k c < 4294967296 := by
 induction k generalizing c with
 | zero => exact h
 | succ k ih => exact ih (Ref.jha h)
set_option maxRecDepth 100000 in
theorem jex (c : Nat) (hc : c < 4294967296) (w : World) :
   Calls Tryz.prog 188 #[.int .u32 c] w fun e w' => e = .returned (.int .u32 (Ref.bits 8 c : Nat)) ∧ w' = w := by
 go_enter Tryz.func188, Tryz.ntmps188
 go_wp2_with fail
 go_loopw [0, 3] (fun v i wr => ∃ (d k : Nat), v = .int .u32 d ∧ i = .int .i64 k ∧ k ≤ 8 ∧ d < 4294967296 ∧ Ref.bits (8 - k) d = Ref.bits 8 c ∧ wr = w)
   (fun _ i _ => 8 - (intOf i).toNat)
 case atStart => exact ⟨c, 0, rfl, rfl, by omega, hc, rfl, rfl⟩
 case round =>
   obtain ⟨d, k, rfl, rfl, hk, hd, hb, rfl⟩ := hrel
   have ha : bits .and .u32 (d : Int) 1 = ((d % 2 : Nat) : Int) := by
     have := u32_and_nat d 1 hd (by omega)
     rw [Nat.and_one_is_mod] at this
     exact this
   have hx : bits .xor .u32 ((d : Int) / 2) 2197175160 = ((d / 2 ^^^ 2197175160 : Nat) : Int) := by
     have := u32_xor_nat (d / 2) 2197175160 (by omega) (by omega)
     rw [← this]
     rfl
   rcases Nat.mod_two_eq_zero_or_one d with h0 | h0
   · have hz : ((d % 2 : Nat) : Int) = 0 := by omega
     rw [hz] at ha
     go_wp2
     · refine ⟨⟨d / 2, k + 1, by simp, by simp, by omega, by omega, ?_, trivial⟩, by simp [intOf]; omega⟩
       rw [← hb, show 8 - k = (8 - (k + 1)) + 1 by omega, Ref.bits]
       simp [Ref.bit, h0]
     · have e8 : k = 8 := by omega
       subst e8
       go_ret
       exact ⟨by rw [← hb]; rfl, rfl⟩
   · have hz : ((d % 2 : Nat) : Int) = 1 := by omega
     rw [hz] at ha
     go_wp2
     · refine ⟨⟨d / 2 ^^^ 2197175160, k + 1, by simp, by simp, by omega, Nat.xor_lt_two_pow (n := 32) (by omega) (by omega), ?_, trivial⟩, by simp [intOf]; omega⟩
       rw [← hb, show 8 - k = (8 - (k + 1)) + 1 by omega, Ref.bits]
       simp [Ref.bit, h0]
     · have e8 : k = 8 := by omega
       subst e8
       go_ret
       exact ⟨by rw [← hb]; rfl, rfl⟩
def Bytes (w : World) (v : Value) (l : List UInt8) : Prop :=
 ∃ p c, v = .slice p l.length c ∧ l.length ≤ c ∧ c ≤ maxLen ∧ (p = none → c = 0) ∧ ∀ ad, p = some ad → ad.spot = none ∧ ∀ j u, l[j]? = some u → w.cell? (ad.add j) = some (qg u)
theorem Bytes.keep {w w' : World} {v : Value} {l : List UInt8} {T : Nat → Prop} (h : Bytes w v l) (hk : ja w w' T) (hT : ∀ p n c, v = .slice (some p) n c → ¬ T p.block) : Bytes w' v l := by
 obtain ⟨p, c, rfl, h1, h2, h3, h4⟩ := h
 exact ⟨p, c, rfl, h1, h2, h3, fun ad e => ⟨(h4 ad e).1, fun j u hu => hk.cell ((h4 ad e).2 j u hu) (by rw [add_block]; exact hT ad _ _ (by rw [e]))⟩⟩
theorem Bytes.same {w w' : World} {v : Value} {l : List UInt8} (h : Bytes w v l) (hk : ja w w' (fun _ => False)) : Bytes w' v l := h.keep hk (fun _ _ _ _ h => h)
theorem Bytes.nil (w : World) : Bytes w (.slice none 0 0) [] := ⟨none, 0, rfl, Nat.le_refl _, Nat.zero_le _, fun _ => rfl, fun _ h => by cases h⟩
theorem jd8 {d : Nat} (h : d < 4294967296) : 4294967295 ^^^ d = 4294967295 - d := by
 apply Nat.eq_of_testBit_eq
 intro i
 have h1 := Nat.testBit_two_pow_sub_succ (x := d) (n := 32) (by omega) i
 have h2 := Nat.testBit_two_pow_sub_one 32 i
 rw [Nat.testBit_xor, show (4294967295 : Nat) = 2 ^ 32 - 1 from rfl, h2, show 2 ^ 32 - 1 - d = 2 ^ 32 - (d + 1) by omega, h1]
 by_cases hi : i < 32
 · simp [hi]
 · have h3 : d.testBit i = false := Nat.testBit_lt_two_pow (Nat.lt_of_lt_of_le (show d < 2 ^ 32 from h) (Nat.pow_le_pow_right (by omega) (by omega)))
   simp [hi, h3]
theorem Vh {l : List UInt8} {c : Nat} (h : c < 4294967296) : l.foldl Ref.Zt c < 4294967296 := by
 induction l generalizing c with
 | nil => exact h
 | cons x r ih =>
   refine ih ?_
   unfold Ref.Zt
   exact Ref.jgd (Nat.xor_lt_two_pow (n := 32) (by omega) (by have := x.toNat_lt; omega))
set_option maxRecDepth 100000 in
theorem Ia (v : Value) (l : List UInt8) (w : World) (hv : Bytes w v l) :
   Calls Tryz.prog 150 #[v] w fun e w' => e = .returned (.int .u32 (Ref.sum l : Nat)) ∧ w' = w := by
 obtain ⟨p, c, rfl, h1, h2, h3, h4⟩ := hv
 have hl := Nat.le_trans h1 h2
 unfold maxLen at hl
 go_enter Tryz.func150, Tryz.ntmps150
 go_wp2_with fail
 go_loopw [3, 8] (fun v i wr => ∃ (k : Nat), v = .int .u32 ((l.take k).foldl Ref.Zt 4294967295 : Nat) ∧ i = .int .i64 k ∧ k ≤ l.length ∧ wr = w)
   (fun _ i _ => l.length - (intOf i).toNat)
 case atStart => exact ⟨0, rfl, rfl, Nat.zero_le _, rfl⟩
 case round =>
   obtain ⟨k, rfl, rfl, hk, rfl⟩ := hrel
   rcases Nat.lt_or_ge k l.length with hlt | hge
   · have hp : ∃ ad, p = some ad := by
       cases p with
       | none => have := h3 rfl; omega
       | some ad => exact ⟨ad, rfl⟩
     obtain ⟨ad, rfl⟩ := hp
     have hc := (h4 ad rfl).2 k l[k] (by simp [hlt])
     have hd := Vh (l := l.take k) (c := 4294967295) (by omega)
     have e1 : (l.take (k + 1)).foldl Ref.Zt 4294967295 = Ref.bits 8 ((l.take k).foldl Ref.Zt 4294967295 ^^^ l[k].toNat) := by
       rw [List.take_succ_eq_append_getElem hlt, List.foldl_append]
       rfl
     have E1 := hide e1
     clear e1
     generalize (l.take k).foldl Ref.Zt 4294967295 = d at hd E1 ⊢
     have hb := l[k].toNat_lt
     have hx : bits .xor .u32 (d : Int) (l[k].toNat : Int) = ((d ^^^ l[k].toNat : Nat) : Int) := u32_xor_nat d l[k].toNat hd (by omega)
     have hxl : d ^^^ l[k].toNat < 4294967296 := Nat.xor_lt_two_pow (n := 32) (by omega) (by omega)
     go_wp2_with (go_at_call 188; (try rw [hx]); refine (jex (d ^^^ l[k].toNat) hxl _).mono ?_; rintro e w' ⟨rfl, rfl⟩)
     exact ⟨⟨k + 1, by rw [E1.out], by simp, by omega, trivial⟩, by simp [intOf]; omega⟩
   · have ek : k = l.length := by omega
     subst ek
     rw [List.take_length]
     have hd := Vh (l := l) (c := 4294967295) (by omega)
     have hs : Ref.sum l = 4294967295 - l.foldl Ref.Zt 4294967295 := rfl
     generalize l.foldl Ref.Zt 4294967295 = d at hd hs ⊢
     go_wp2
     go_ret
     refine ⟨?_, rfl⟩
     have hm : IntKind.u32.max = ((4294967295 : Nat) : Int) := by decide
     have hq := u32_xor_nat 4294967295 d (by omega) hd
     rw [jd8 hd] at hq
     rw [← hq, ← hm]
     rfl
def Grown (w : World) (v : Value) (w' : World) (v' : Value) : Prop := (v'.ownBlock = v.ownBlock ∨ ∃ g, v'.ownBlock = some g ∧ w.heap.size ≤ g) ∧ ja w w' (fun i => some i = v.ownBlock)
theorem Grown.refl (w : World) (v : Value) : Grown w v w v := ⟨.inl rfl, ja.refl _ _⟩
theorem Grown.keeps {w w' : World} {v v' : Value} (h : Grown w v w' v') : ja w w' (fun i => some i = v.ownBlock) := h.2
theorem Grown.trans {a b c : World} {u v x : Value} (h : Grown a u b v) (k : Grown b v c x) : Grown a u c x := by
 obtain ⟨h1, h2⟩ := h
 obtain ⟨k1, k2⟩ := k
 refine ⟨?_, h2.trans k2 (fun i hi e => ?_)⟩
 · rcases k1 with k1 | ⟨g, k1, k3⟩
   · rw [k1]; exact h1
   · exact .inr ⟨g, k1, Nat.le_trans h2.size k3⟩
 · rcases h1 with h1 | ⟨g, h1, h3⟩
   · exact e.trans h1
   · rw [h1] at e; have := Option.some.inj e; omega
theorem Grown.of {a b : World} (h : ja a b (fun _ => False)) (v : Value) : Grown a v b v := ⟨.inl rfl, h.mono (fun _ _ h => h.elim)⟩
theorem Grown.grown {a b : World} {u v : Value} (hg : a.grownBy b u.ownBlock) (hl : v.ownBlock = u.ownBlock ∨ v.ownBlock = some a.heap.size) : Grown a u b v := by
 refine ⟨?_, ja.grown hg⟩
 rcases hl with hl | hl
 · exact .inl hl
 · exact .inr ⟨_, hl, Nat.le_refl _⟩
theorem Grown.new {w w' : World} {v v' : Value} (h : Grown w v w' v') (hv : v.ownBlock = none) : ja w w' (fun _ => False) := h.2.mono (fun i _ e => by rw [hv] at e; cases e)
theorem Ref.je5 (x k m : Nat) : Ref.big (x / 256 ^ (k + 1)) m ++ [UInt8.ofNat (x / 256 ^ k % 256)] = Ref.big (x / 256 ^ k) (m + 1) := by
 rw [Ref.big, Nat.div_div_eq_div_mul, Nat.pow_succ]
set_option maxHeartbeats 400000 in
set_option maxRecDepth 100000 in
theorem zw (v : Value) (m : Nat) (xs : List UInt8) (x n base : Nat) (w : World) (hm : xs.length = m) (hx : x < 18446744073709551616) (hn : n ≤ 8) (hl : m < 1099511627776) (hbase : base ≤ w.heap.size)
   (hrow : w.ownsRow base 5 1 v m (xs.map qg)) :
   Calls Tryz.prog 107 #[v, .int .u64 x, .int .i64 n] w fun e w' => ∃ p c, e = .returned (.slice p (m + n) c) ∧
     w'.ownsRow base 5 1 (.slice p (m + n) c) (m + n) ((xs ++ Ref.big x n).map qg) ∧
     Grown w v w' (.slice p (m + n) c) := by
 subst hm
 obtain ⟨p0, c0, rfl⟩ := jh hrow
 obtain ⟨j0, hj, hy0, hy1, hy2⟩ := info_parts Tryz.Ap
 go_enter Tryz.func107, Tryz.ntmps107
 go_wp2_with fail
 go_loopw [0, 7] (fun b i wr => ∃ (k : Nat) (p : Option Addr) (c : Nat), k ≤ n ∧ i = .int .i64 ((k : Int) - 1) ∧ b = .slice p (xs.length + (n - k)) c ∧
     wr.ownsRow base 5 1 (.slice p (xs.length + (n - k)) c) (xs.length + (n - k)) ((xs ++ Ref.big (x / 256 ^ k) (n - k)).map qg) ∧
     Grown w (.slice p0 xs.length c0) wr (.slice p (xs.length + (n - k)) c))
   (fun _ i _ => (intOf i + 1).toNat)
 case atStart =>
   refine ⟨n, p0, c0, Nat.le_refl _, rfl, by simp, ?_, ?_⟩
   · simpa [Ref.big] using hrow
   · simpa using Grown.refl _ _
 case round =>
   obtain ⟨k, p, c, hk, rfl, rfl, hown, hgr⟩ := hrel
   rcases Nat.eq_zero_or_pos k with rfl | hpos
   · have e1 : x / 256 ^ 0 = x := by simp
     rw [e1, Nat.sub_zero] at hown
     rw [Nat.sub_zero] at hgr
     clear e1
     go_wp2
     go_ret
     refine ⟨p, c, by simp, hown, hgr⟩
   · obtain ⟨q, rfl⟩ : ∃ q, k = q + 1 := ⟨k - 1, by omega⟩
     have hby : ((x : Int) / 2 ^ (8 * q) % 256) = ((UInt8.ofNat (x / 256 ^ q % 256)).toNat : Int) := by
       have h1 : (2 : Nat) ^ (8 * q) = 256 ^ q := by rw [Nat.pow_mul]
       have h2 : (UInt8.ofNat (x / 256 ^ q % 256)).toNat = x / 256 ^ q % 256 := by simp [UInt8.toNat_ofNat']
       rw [h2, ← h1]
       simp
     have HB := hide hby
     clear hby
     have hstep := Ref.je5 x q (n - (q + 1))
     have en : n - (q + 1) + 1 = n - q := by omega
     rw [en] at hstep
     have HS := hide hstep
     clear hstep en
     have hown' := hown.alloc (.cells #[.int .u8 ((x : Int) / 2 ^ (8 * q) % 256)] 5)
     have hsz := hgr.keeps.size
     have h1 : ∀ u ∈ [Value.int .u8 ((x : Int) / 2 ^ (8 * q) % 256)], u.oneCell' = true := by intro u hu; simp at hu; subst hu; rfl
     have h63 : Hid (xs.length + (n - (q + 1)) + 1 ≤ maxLen) := by unfold Hid maxLen; omega
     have hbs : Hid ((xs.length + (n - (q + 1)) + 1) * 1 ≤ 140737488355328) := by unfold Hid; omega
     have hb : base ≤ (wr.alloc (.cells #[.int .u8 ((x : Int) / 2 ^ (8 * q) % 256)] 5)).heap.size := by simp; omega
     go_wp2_with (first | (at_builtin; refine jm _ rfl (.tmp 14) (.tmp 20) 84 rfl base 5 j0 (.int .u8 0) 1 1 Tryz.underlying84 hj hy0 hy1 hy2 rfl (by decide) _ _ _ rfl hown' ⟨wr.heap.size, 0, none⟩ 1 1 [.int .u8 ((x : Int) / 2 ^ (8 * q) % 256)] rfl rfl (cell_one_new _ _ _) h1 h63.out hbs.out hb ?_; intro p3 cp3 w3 hown3 hg3 hloc3) | go_in)
     have en : xs.length + (n - (q + 1)) + 1 = xs.length + (n - q) := by omega
     rw [en] at hown3 hloc3 ⊢
     refine ⟨⟨q, p3, cp3, by omega, rfl, rfl, ?_, hgr.trans ((Grown.of (ja.alloc wr _ _) _).trans (Grown.grown hg3 hloc3))⟩, by simp [intOf]⟩
     rw [← HS.out, ← List.append_assoc, List.map_append, List.map_cons, List.map_nil]
     rw [HB.out] at hown3
     exact hown3
theorem bytes_of_row {w : World} {base : Nat} {v : Value} {l : List UInt8} (h : w.ownsRow base 5 1 v l.length (l.map qg)) : Bytes w v l := by
 rcases h.2 with ⟨e, h0⟩ | ⟨g, cap, cur, e, _, hgg, h1, h2, _⟩
 · have : l = [] := List.eq_nil_of_length_eq_zero h0
   subst this
   rw [e]
   exact Bytes.nil w
 · refine ⟨some ⟨g, 0, none⟩, cap, e, h1, h2, (fun h => by cases h), fun ad had => ?_⟩
   cases had
   refine ⟨rfl, fun j u hu => ?_⟩
   exact h.cells (by rw [e]; rfl) j _ (by rw [List.getElem?_map, hu]; rfl)
theorem Bytes.src {w : World} {v : Value} {l : List UInt8} (h : Bytes w v l) : Src Tryz.prog 1 84 v l.length (l.map qg) w := by
 obtain ⟨p, c, rfl, h1, h2, h3, h4⟩ := h
 cases p with
 | none =>
   have : c = 0 := h3 rfl
   have hl : l = [] := List.eq_nil_of_length_eq_zero (by omega)
   subst hl
   exact Src.ofNil w Tryz.underlying84 c
 | some ad =>
   refine Src.ofSlice w Tryz.underlying84 ad l.length c _ (by simp) (fun j u hu => ?_) (F5 _)
   rw [List.getElem?_map] at hu
   cases hj : l[j]? with
   | none => rw [hj] at hu; cases hu
   | some x => rw [hj] at hu; cases hu; exact (h4 ad rfl).2 j x hj
set_option maxHeartbeats 400000 in
set_option maxRecDepth 100000 in
theorem mr (v : Value) (l : List UInt8) (w : World) (hv : Bytes w v l) (hl : l.length < 1099511627776) :
   Calls Tryz.prog 105 #[v] w fun e w' => ∃ p c, e = .returned (.slice p (8 + l.length) c) ∧
     w'.ownsRow w.heap.size 5 1 (.slice p (8 + l.length) c) (8 + l.length) ((Ref.frame l).map qg) ∧ ja w w' (fun _ => False) := by
 obtain ⟨p, c, rfl, hv2⟩ := id hv
 clear hv2
 obtain ⟨j0, hj, hy0, hy1, hy2⟩ := info_parts Tryz.Ap
 go_enter Tryz.func105, Tryz.ntmps105
 go_wp2_with fail
 refine (zw (.slice none 0 0) 0 [] l.length 4 w.heap.size w rfl (by omega) (by omega) (by omega) (Nat.le_refl _) (World.ownsRow_nil _ _ _ _)).mono ?_
 rintro e w1 ⟨p1, c1, rfl, hown1, hgr1⟩
 have k1 := hgr1.new rfl
 have hv1 := hv.same k1
 simp only [List.nil_append, Nat.zero_add] at hown1 hgr1 ⊢
 go_wp2_with fail
 refine (Ia _ l w1 hv1).mono ?_
 rintro e w' ⟨rfl, rfl⟩
 have hs := Ref.sum_lt l
 have hc : ((Ref.sum l : Nat) : Int) % 18446744073709551616 = (Ref.sum l : Nat) := by omega
 go_wp2_with fail
 refine (zw (.slice p1 4 c1) 4 (Ref.big l.length 4) (Ref.sum l) 4 w.heap.size _ (Ref.jk _ _) (by omega) (by omega) (by omega) k1.size hown1).mono ?_
 rintro e w2 ⟨p2, c2, rfl, hown2, hgr2⟩
 have gr2 := hgr1.trans hgr2
 have k2 := gr2.new rfl
 have hsrc := (hv.same k2).src
 simp only [Nat.reduceAdd] at hown2 hgr2 gr2 ⊢
 have h63 : Hid (8 + l.length ≤ maxLen) := by unfold Hid maxLen; omega
 have hbs : Hid ((8 + l.length) * 1 ≤ 140737488355328) := by unfold Hid; omega
 go_wp2_with (first | (at_builtin; refine Q4 _ rfl (.tmp 13) (.tmp 14) 84 84 rfl w.heap.size 5 j0 (.int .u8 0) 1 1 Tryz.underlying84 hj hy0 hy1 hy2 rfl (by decide) _ 8 _ rfl hown2 _ l.length _ rfl hsrc h63.out hbs.out k2.size ?_; intro p3 cp3 w3 hown3 hg3 hloc3) | go_in)
 go_ret
 refine ⟨p3, cp3, rfl, ?_, (gr2.trans (Grown.grown hg3 hloc3)).new rfl⟩
 simpa [Ref.frame] using hown3
theorem add_add (a : Addr) (i j : Nat) (h : a.spot = none) : (a.add i).add j = a.add (i + j) := by
 obtain ⟨b, o, s⟩ := a
 simp only at h
 subst h
 unfold Addr.add
 by_cases hi : i = 0 <;> by_cases hj : j = 0 <;> simp [hi, hj] <;> omega
theorem I8 (a : Addr) (i : Nat) (h : a.spot = none) : (a.add i).spot = none := by
 unfold Addr.add
 split
 · exact h
 · rfl
theorem Bytes.take {w : World} {p : Option Addr} {c : Nat} {l : List UInt8} (h : Bytes w (.slice p l.length c) l) (n : Nat) (hn : n ≤ l.length) : Bytes w (.slice p n c) (l.take n) := by
 obtain ⟨p', c', e, h1, h2, h3, h4⟩ := h
 cases e
 refine ⟨p, c, by simp [Nat.min_eq_left hn], by simp; omega, h2, h3, fun ad e => ⟨(h4 ad e).1, fun j u hu => (h4 ad e).2 j u ?_⟩⟩
 rw [List.getElem?_take] at hu
 split at hu
 · exact hu
 · cases hu
theorem Bytes.drop {w : World} {p : Option Addr} {c : Nat} {l : List UInt8} (h : Bytes w (.slice p l.length c) l) (n : Nat) (hn : n ≤ l.length) : Bytes w (.slice (if c = n then p else p.map (·.add n)) (l.length - n) (c - n)) (l.drop n) := by
 obtain ⟨p', c', e, h1, h2, h3, h4⟩ := h
 cases e
 refine ⟨if c = n then p else p.map (·.add n), c - n, by simp, by simp; omega, by omega, fun e => ?_, fun ad e => ?_⟩
 · split at e
   · omega
   · cases p with
     | none => have := h3 rfl; omega
     | some a => cases e
 · split at e
   · rename_i hc
     refine ⟨(h4 ad e).1, fun j u hu => ?_⟩
     have : l.drop n = [] := List.drop_of_length_le (by omega)
     rw [this] at hu
     cases hu
   · cases p with
     | none => cases e
     | some a =>
       cases e
       refine ⟨I8 a n (h4 a rfl).1, fun j u hu => ?_⟩
       rw [add_add a n j (h4 a rfl).1]
       exact (h4 a rfl).2 (n + j) u (by rw [List.getElem?_drop] at hu; exact hu)
theorem Bytes.mg {w w' : World} {v u : Value} {l : List UInt8} {r : Nat} {t : TypeId} (h : Bytes w v l) (hr : w.heap[r]? = some (.cells #[u] t (0, 0))) (hu : ∃ p n c, u = .slice p n c) (hk : ja w w' (fun i => i = r)) : Bytes w' v l := by
 obtain ⟨p, c, rfl, h1, h2, h3, h4⟩ := h
 refine ⟨p, c, rfl, h1, h2, h3, fun ad e => ⟨(h4 ad e).1, fun j x hx => ?_⟩⟩
 have hc := (h4 ad e).2 j x hx
 refine hk.cell hc (fun hb => ?_)
 obtain ⟨p', n', c', rfl⟩ := hu
 have h5 : (ad.add j).spot = none := I8 ad j (h4 ad e).1
 simp only [World.cell?, hb, hr, h5] at hc
 rcases Nat.eq_zero_or_pos (ad.add j).off with h0 | h0
 · rw [h0] at hc; simp at hc
 · rw [Array.getElem?_eq_none (by simp; omega)] at hc; simp at hc
def RdB (G : Nat → Prop) (w : World) (r : Nat) (l : List UInt8) : Prop := ∃ v, w.heap[r]? = some (.cells #[v] 335 (0, 0)) ∧ Bytes w v l ∧ (l ≠ [] → ∀ p n c, v = .slice (some p) n c → p.block < r ∧ G p.block)
abbrev Rd (w : World) (r : Nat) (l : List UInt8) : Prop := RdB (fun _ => True) w r l
theorem RdB.same {G : Nat → Prop} {w w' : World} {r : Nat} {l : List UInt8} (h : RdB G w r l) (hk : ja w w' (fun _ => False)) : RdB G w' r l := by
 obtain ⟨v, h1, h2, h3⟩ := h
 exact ⟨v, hk.same h1 id, h2.same hk, h3⟩
theorem Rd.same {w w' : World} {r : Nat} {l : List UInt8} (h : Rd w r l) (hk : ja w w' (fun _ => False)) : Rd w' r l := RdB.same h hk
theorem Bytes.lt {w : World} {p : Addr} {n c : Nat} {l : List UInt8} (h : Bytes w (.slice (some p) n c) l) (hl : l ≠ []) : p.block < w.heap.size := by
 obtain ⟨p', c', e, h1, h2, h3, h4⟩ := h
 cases e
 cases l with
 | nil => exact absurd rfl hl
 | cons x r =>
   have := World.block_lt_of_cell? w _ ((h4 p rfl).2 0 x rfl)
   rwa [add_block] at this
theorem Rd.bytes {w w' : World} {r : Nat} {l m : List UInt8} {u : Value} (h : Rd w r l) (hb : Bytes w u m) (hk : ja w w' (fun i => i = r)) : Bytes w' u m := by
 obtain ⟨v, h1, ⟨p, c, rfl, _⟩, _⟩ := h
 exact hb.mg h1 ⟨_, _, _, rfl⟩ hk
set_option maxRecDepth 100000 in
theorem Ec {G : Nat → Prop} (v : Value) (l : List UInt8) (w : World) (hv : Bytes w v l) (hG : l ≠ [] → ∀ p n c, v = .slice (some p) n c → G p.block) :
   Calls Tryz.prog 217 #[v] w fun e w' => ∃ r, e = .returned (.pointer (some ⟨r, 0, none⟩)) ∧ w.heap.size ≤ r ∧ RdB G w' r l ∧ ja w w' (fun _ => False) := by
 obtain ⟨p, c, rfl, _⟩ := id hv
 go_enter Tryz.func217, Tryz.ntmps217
 go_wp2
 go_ret
 exact ⟨_, rfl, Nat.le_refl _, ⟨_, jd w _, hv.same (ja.alloc w _ _), fun hl p' n' c' e => by cases e; exact ⟨hv.lt hl, hG hl _ _ _ rfl⟩⟩, ja.alloc w _ _⟩
theorem Qz (v : Value) (l : List UInt8) (w : World) (hv : Bytes w v l) :
   Calls Tryz.prog 217 #[v] w fun e w' => ∃ r, e = .returned (.pointer (some ⟨r, 0, none⟩)) ∧ w.heap.size ≤ r ∧ Rd w' r l ∧ ja w w' (fun _ => False) :=
 Ec v l w hv (fun _ _ _ _ _ => trivial)
set_option maxRecDepth 100000 in
theorem jba {G : Nat → Prop} {w : World} {r n : Nat} {l : List UInt8} (hr : RdB G w r l) (hn : n ≤ l.length) :
   Calls Tryz.prog 259 #[.pointer (some ⟨r, 0, none⟩), .int .i64 n] w fun e w' => ∃ v1, e = .returned (.tuple #[v1, .nilIface]) ∧ Bytes w' v1 (l.take n) ∧ RdB G w' r (l.drop n) ∧ ja w w' (fun i => i = r) := by
 obtain ⟨v, hr, hv, hb3⟩ := hr
 obtain ⟨p, c, rfl, h1, h2, hx⟩ := id hv
 clear hx
 unfold maxLen at h2
 have c0 := cell_of_heap (o := 0) hr
 have f0 := frozen_of_heap (o := 0) hr
 simp at c0
 have HR := hide hr
 clear hr
 have hcn : c = n ∨ ¬ c = n := by omega
 have hlen : n ≤ c := by omega
 have ht := hv.take n hn
 have hd := hv.drop n hn
 have hk := fun x => ja.setCell w ⟨r, 0, none⟩ x
 rcases hcn with rfl | hcn
 · have hl : l.length = c := by omega
   simp only [if_true, Nat.sub_self, hl] at hd
   go_enter Tryz.func259, Tryz.ntmps259
   go_wp2
   go_ret2
   exact ⟨_, rfl, ht.mg HR.out ⟨_, _, _, rfl⟩ (hk _), ⟨.slice p 0 0, (jb HR.out _).trans (by simp), hd.mg HR.out ⟨_, _, _, rfl⟩ (hk _), fun hl => absurd (List.drop_of_length_le (by omega)) hl⟩, hk _⟩
 · simp only [if_neg hcn] at hd
   go_enter Tryz.func259, Tryz.ntmps259
   go_wp2
   go_ret2
   exact ⟨_, rfl, ht.mg HR.out ⟨_, _, _, rfl⟩ (hk _), ⟨.slice (p.map (·.add n)) (l.length - n) (c - n), (jb HR.out _).trans (by simp), hd.mg HR.out ⟨_, _, _, rfl⟩ (hk _), fun hl p' n' c' e => by
     cases p with
     | none => cases e
     | some a => cases e; rw [add_block]; exact hb3 (fun e => hl (by rw [e]; simp)) a _ _ rfl⟩, hk _⟩
set_option maxRecDepth 100000 in
theorem Ir {E : Nat → Addr} {B : Nat} {w : World} {r n : Nat} {l : List UInt8} (S : Q0 E B w) (hr : Rd w r l) (hn : l.length < n) (hn2 : n ≤ 255) :
   Calls Tryz.prog 259 #[.pointer (some ⟨r, 0, none⟩), .int .i64 n] w fun e w' => ∃ v, e = .returned (.tuple #[.slice none 0 0, v]) ∧ Err E w' v 7 ∧ Rd w' r l ∧ ja w w' (fun _ => False) := by
 obtain ⟨v, hr, hv, hb3⟩ := id hr
 obtain ⟨p, c, rfl, h1, h2, hx⟩ := id hv
 clear hx
 have c0 := cell_of_heap (o := 0) hr
 have s0 := S.cell 7 (by decide)
 simp at c0
 have HR := hide hr
 clear hr
 go_enter Tryz.func259, Tryz.ntmps259
 go_wp2_with fail
 go_region
 all_goals
   go_wp2
   go_ret2
   exact ⟨_, rfl, .base _ (by decide), Rd.same ⟨_, HR.out, hv, hb3⟩ (ja.drew w _), ja.drew w _⟩
theorem Ref.Fg {l : List UInt8} {k : Nat} (h : k < l.length) : Ref.number (l.take (k + 1)) = Ref.number (l.take k) * 256 + l[k].toNat := by
 rw [List.take_succ_eq_append_getElem h, Ref.Ak]
set_option maxHeartbeats 400000 in
set_option maxRecDepth 100000 in
theorem y8 {G : Nat → Prop} {w : World} {r n : Nat} {l : List UInt8} (hr : RdB G w r l) (hn : n ≤ l.length) (hn8 : n ≤ 8) :
   Calls Tryz.prog 242 #[.pointer (some ⟨r, 0, none⟩), .int .i64 n] w fun e w' => e = .returned (.tuple #[.int .u64 (Ref.number (l.take n) : Nat), .nilIface]) ∧ RdB G w' r (l.drop n) ∧ ja w w' (fun i => i = r) := by
 go_enter Tryz.func242, Tryz.ntmps242
 go_wp2_with fail
 refine (jba hr hn).mono ?_
 rintro e w1 ⟨v1, rfl, hb, hr1, k1⟩
 obtain ⟨p, c, rfl, h1, h2, h3, h4⟩ := id hb
 have hl : (l.take n).length = n := by simp; omega
 rw [hl] at h1 ⊢
 generalize hq : l.take n = q at hb h4 hl ⊢
 go_wp2_with fail
 go_loopw [8, 23] (fun v i wr => ∃ (k : Nat), v = .int .u64 (Ref.number (q.take k) : Nat) ∧ i = .int .i64 k ∧ k ≤ n ∧ wr = w1)
   (fun _ i _ => n - (intOf i).toNat)
 case atStart => exact ⟨0, rfl, rfl, Nat.zero_le _, rfl⟩
 case round =>
   obtain ⟨k, rfl, rfl, hk, rfl⟩ := hrel
   rcases Nat.lt_or_ge k n with hlt | hge
   · have hp : ∃ ad, p = some ad := by
       cases p with
       | none => have := h3 rfl; omega
       | some ad => exact ⟨ad, rfl⟩
     obtain ⟨ad, rfl⟩ := hp
     have hkq : k < q.length := by omega
     have hc := (h4 ad rfl).2 k q[k] (by simp [hkq])
     have hd := Ref.Yq (q.take k)
     have hlk : (q.take k).length = k := by simp; omega
     rw [hlk] at hd
     have hd2 : Ref.number (q.take k) < 72057594037927936 := Nat.lt_of_lt_of_le hd (Nat.le_trans (Nat.pow_le_pow_right (by omega) (show k ≤ 7 by omega)) (by decide))
     have e1 := Ref.Fg hkq
     have E1 := hide e1
     clear e1 hd hlk
     generalize Ref.number (q.take k) = d at hd2 E1 ⊢
     have hx8 : q[k].toNat < 256 := q[k].toNat_lt
     have hor : bits .or .u64 ((d : Int) * 256) (q[k].toNat : Int) = ((d * 256 + q[k].toNat : Nat) : Int) := by
       have h5 := u64_or_nat (d * 256) q[k].toNat (by omega) (by omega)
       have h6 := Nat.two_pow_add_eq_or_of_lt (i := 8) (b := q[k].toNat) (by omega) d
       rw [show 2 ^ 8 * d = d * 256 by omega] at h6
       rw [← h6] at h5
       rw [← h5]
       simp
     go_wp2
     exact ⟨⟨k + 1, by rw [E1.out]; simp, by simp, by omega, trivial⟩, by simp [intOf]; omega⟩
   · have ek : k = n := by omega
     subst ek
     rw [List.take_of_length_le (show q.length ≤ k by omega)]
     go_wp2
     go_ret2
     exact ⟨by rw [hq]; rfl, hr1, k1⟩
set_option maxRecDepth 100000 in
theorem Qi {E : Nat → Addr} {B : Nat} {w : World} {r n : Nat} {l : List UInt8} (S : Q0 E B w) (hr : Rd w r l) (hn : l.length < n) (hn8 : n ≤ 8) :
   Calls Tryz.prog 242 #[.pointer (some ⟨r, 0, none⟩), .int .i64 n] w fun e w' => ∃ v, e = .returned (.tuple #[.int .u64 0, v]) ∧ Err E w' v 7 ∧ Rd w' r l ∧ ja w w' (fun _ => False) := by
 go_enter Tryz.func242, Tryz.ntmps242
 go_wp2_with fail
 refine (Ir S hr hn (by omega)).mono ?_
 rintro e w1 ⟨v, rfl, he, hr1, k1⟩
 obtain ⟨t, a, rfl⟩ := he.shape
 go_wp2_with fail
 refine (Ja _ he).mono ?_
 rintro e w2 ⟨v2, rfl, he2, k2⟩
 go_wp2
 go_ret2
 exact ⟨_, rfl, he2, hr1.same k2, k1.trans k2 (fun _ _ h => h)⟩
set_option maxRecDepth 100000 in
theorem jao {w : World} {r : Nat} (hr : Rd w r []) :
   Calls Tryz.prog 243 #[.pointer (some ⟨r, 0, none⟩)] w fun e w' => e = .returned .nilIface ∧ w' = w := by
 obtain ⟨v, hr, hv, _⟩ := hr
 obtain ⟨p, c, rfl, _⟩ := hv
 have c0 := cell_of_heap (o := 0) hr
 simp at c0
 clear hr
 go_enter Tryz.func243, Tryz.ntmps243
 go_wp2
 go_ret
 exact ⟨rfl, rfl⟩
set_option maxRecDepth 100000 in
theorem Vn {E : Nat → Addr} {B : Nat} {w : World} {r : Nat} {l : List UInt8} (S : Q0 E B w) (hr : Rd w r l) (hl : l ≠ []) :
   Calls Tryz.prog 243 #[.pointer (some ⟨r, 0, none⟩)] w fun e w' => ∃ v, e = .returned v ∧ Err E w' v 3 ∧ w' = w := by
 obtain ⟨v, hr, hv, _⟩ := hr
 obtain ⟨p, c, rfl, _⟩ := hv
 have c0 := cell_of_heap (o := 0) hr
 have s0 := S.cell 3 (by decide)
 simp at c0
 clear hr
 have hpos : 0 < l.length := List.length_pos_iff.2 hl
 go_enter Tryz.func243, Tryz.ntmps243
 go_wp2
 go_ret
 exact ⟨_, rfl, .base _ (by decide), rfl⟩
end Go.Proofs.YtnipbplghijdmaaGreatDoor
