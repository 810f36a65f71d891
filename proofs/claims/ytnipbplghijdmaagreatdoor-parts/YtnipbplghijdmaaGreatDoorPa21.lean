/-
  Pa: Files4 StoreA View Vol Steps Lay.
-/
import Derived.Maps.AppendAt
import Derived.Deep.DeepMust
import Derived.Test.YtnipbplghijdmaaGreatDoorPa20
import Derived.Test.YtnipbplghijdmaaGreatDoorPa08
import Derived.Test.YtnipbplghijdmaaGreatDoorPa15
import Derived.Test.YtnipbplghijdmaaGreatDoorPa17
import Derived.Test.YtnipbplghijdmaaGreatDoorPa07
import Derived.Test.YtnipbplghijdmaaGreatDoorPa01
import Derived.Test.YtnipbplghijdmaaGreatDoorPa16
namespace Go.Proofs.YtnipbplghijdmaaGreatDoor
open Go.RowKit Go.Maps Go.WideShapes
set_option linter.unusedVariables false
theorem contains_row {w : World} {base : Nat} {v : Value} {ks : List Str} (x : Str) (hl : ks.length < 1099511627776) (hv : w.ownsRow base 9 1 v ks.length (ks.map encStr)) :
   Calls Tryz.prog 214 #[v, strV x] w fun e w' => e = .returned (.bool (decide (x ∈ ks))) ∧ w' = w := by
 rcases hv.2 with ⟨rfl, h0⟩ | ⟨g, cap, cur, rfl, _, hg, h1, h2, h3, h4⟩
 · have : ks = [] := List.eq_nil_of_length_eq_zero h0
   subst this
   refine (Tryz.slices_Contains_string_empty none 0 ⟨x.toArray⟩ w).mono ?_
   rintro e w' ⟨rfl, rfl⟩
   exact ⟨by simp, rfl⟩
 · refine (Tryz.slices_Contains_string g 0 ks.length cap (ks.map fun s => ⟨s.toArray⟩) ⟨x.toArray⟩ w (by simp) (by omega) ?_).mono ?_
   · intro j hj
     have hj2 : j < ks.length := by simpa using hj
     have := hv.cells rfl j (encStr ks[j]) (by rw [List.getElem?_map, List.getElem?_eq_getElem hj2]; rfl)
     rw [add_zero] at this
     rw [Nat.zero_add, this]
     unfold encStr
     simp [List.getD, List.getElem?_eq_getElem hj2]
   · rintro e w' ⟨rfl, rfl⟩
     refine ⟨?_, rfl⟩
     congr 2
     rw [Bool.eq_iff_iff, Lib.containsS_iff, List.take_of_length_le (by simp), decide_eq_true_eq, List.mem_map]
     constructor
     · rintro ⟨s, hs, e⟩
       have e2 : s.toArray = x.toArray := congrArg ByteArray.data e
       have e3 : s = x := by simpa using e2
       exact e3 ▸ hs
     · intro h
       exact ⟨x, h, rfl⟩
theorem namesBad {w : World} {ρ : Nat → Role} {d : Nat} {S : DiskA} (R : Rep w ρ d S) (hB : S.bad = true) :
   Calls Tryz.prog 213 #[.pointer (some ⟨d, 0, none⟩)] w fun e w' => e = .returned (.tuple #[.slice none 0 0, .int .i64 1]) ∧ Grew w ρ w' ρ ∧ Rep w' ρ d (S.called false) := by
 go_enter Tryz.func213, Tryz.ntmps213
 go_wp2_with (go_at_call 102; refine (call_any false R).mono ?_; rintro e w1 ⟨rfl, R1, G1⟩)
 go_ret2
 exact ⟨rfl, G1, R1⟩
def others (ks ns : List Str) : List Str := ns.filter (fun x => !decide (x ∈ ks))
theorem others_succ {ks ns : List Str} {k : Nat} {x : Str} (hk : k < ns.length) (hx : ns[k] = x) : others ks (ns.take (k + 1)) = if x ∈ ks then others ks (ns.take k) else others ks (ns.take k) ++ [x] := by
 unfold others
 rw [List.take_add_one, List.getElem?_eq_getElem hk, hx, Option.toList_some, List.filter_append]
 by_cases h : x ∈ ks <;> simp [h]
theorem others_length (ks ns : List Str) : (others ks ns).length ≤ ns.length := List.length_filter_le _ _
def DiskA.clearA (ks : List Str) (S : DiskA) : DiskA × Bool := if S.bad = true then (S.called false, false) else DiskA.removeAllA (others ks S.keys) (S.called false)
set_option maxHeartbeats 1000000 in
set_option maxRecDepth 100000 in
theorem removeAllBut_any {E : Nat → Addr} {B : Nat} {w : World} {ρ : Nat → Role} {d : Nat} {S : DiskA} (D : Dk E B w ρ d S) (Z : Small S) (v : Value) (ks : List Str) (base : Nat) (hv : w.ownsRow base 9 1 v ks.length (ks.map encStr)) (hρ : ∀ g, v.ownBlock = some g → ρ g = .none)
   (hl : ks.length < 1099511627776) (hkl : ∀ n ∈ S.keys, n.length < 1099511627776) (hz : Maps.size S.safe + S.late.length + S.keys.length < 1099511627776) :
   Calls Tryz.prog 177 #[.pointer (some ⟨d, 0, none⟩), v] w (FPost E B w ρ d (DiskA.clearA ks S)) := by
 obtain ⟨p, c, rfl⟩ := slice_of_row hv
 obtain ⟨i0, hi, hz0, hz1, hz2⟩ := info_parts Tryz.infoStr
 have hB : S.bad = true ∨ S.bad = false := by cases S.bad <;> simp
 rcases hB with hB | hB
 · have hres : DiskA.clearA ks S = (S.called false, false) := by unfold DiskA.clearA; rw [if_pos hB]
   have HRES := hide hres
   clear hres
   go_enter Tryz.func177, Tryz.ntmps177
   go_wp2_with fail
   refine (namesBad D.rep hB).mono ?_
   rintro e w1 ⟨rfl, g1, R1⟩
   have D1 := D.step g1 R1
   go_wp2_with fail
   refine (failure_bad D1.sent [110, 97, 109, 101, 115] 1 (by decide)).mono ?_
   rintro e w2 ⟨v2, rfl, he, k2⟩
   obtain ⟨t1, a1, rfl⟩ := he.shape
   go_wp2
   go_ret
   rw [HRES.out]
   exact ⟨ρ, g1.same k2, D1.same k2, .inr ⟨rfl, _, rfl, he⟩⟩
 · have hres : DiskA.clearA ks S = DiskA.removeAllA (others ks S.keys) (S.called false) := by unfold DiskA.clearA; rw [if_neg (by rw [hB]; decide)]
   have HRES := hide hres
   clear hres
   go_enter Tryz.func177, Tryz.ntmps177
   go_wp2_with fail
   refine (names_ok D.rep Z hB).mono ?_
   rintro e w1 ⟨g1, R1, pk, ck, rfl, hkeys⟩
   have D1 := D.step g1 R1
   have hv1 := g1.keeps.row hv (fun g hg2 h => h (hρ g hg2))
   generalize hns : S.keys = ns at hkeys hkl hz HRES
   have HNS := hide hns
   clear hns
   go_wp2_with fail
   refine (failure_ok [110, 97, 109, 101, 115] w1).mono ?_
   rintro e w2 ⟨rfl, rfl⟩
   obtain ⟨N1, hN1⟩ : ∃ N1, N1 = w2.heap.size := ⟨_, rfl⟩
   have HN1 := hide hN1
   clear hN1
   go_wp2_with fail
   go_loopw [8, 23] (fun v8 i wr => ∃ (k : Nat) (ss : List Str) (p8 : Option Addr) (c8 : Nat), k ≤ ns.length ∧ i = .int .i64 k ∧ v8 = .slice p8 ss.length c8 ∧ ss = others ks (ns.take k) ∧ wr.ownsRow w2.heap.size 9 1 (.slice p8 ss.length c8) ss.length (ss.map encStr) ∧ Keeps w2 wr (fun _ => False))
     (fun _ i _ => ns.length - (intOf i).toNat)
   case atStart => exact ⟨0, [], none, 0, Nat.zero_le _, rfl, rfl, rfl, World.ownsRow_nil _ _ _ _, Keeps.refl _ _⟩
   case round =>
     obtain ⟨k, ss, p8, c8, hk, rfl, rfl, hss, hrow, hkw⟩ := hrel
     have hsl := others_length ks (ns.take k)
     rw [← hss, List.length_take] at hsl
     have HSS := hide hss
     clear hss
     rcases Nat.lt_or_ge k ns.length with hlt | hge
     · have hkr := hkw.row hkeys (fun _ _ h => h)
       have hvr := hkw.row hv1 (fun _ _ h => h)
       have hp : ∃ g, pk = some ⟨g, 0, none⟩ := by
         rcases hkr.2 with ⟨_, h0⟩ | ⟨g, cap, cur, e, _⟩
         · omega
         · cases e; exact ⟨g, rfl⟩
       obtain ⟨g, rfl⟩ := hp
       have hcell := hkr.cells rfl k (encStr ns[k]) (by rw [List.getElem?_map, List.getElem?_eq_getElem hlt]; rfl)
       rw [add_zero] at hcell
       generalize hx : ns[k] = x at hcell
       have hstep := others_succ (ks := ks) hlt hx
       rw [← HSS.out] at hstep
       have HST := hide hstep
       clear hstep hx
       unfold encStr at hcell
       have hsw : w2.heap.size ≤ wr.heap.size := hkw.size
       by_cases hxm : x ∈ ks
       · have hd : decide (x ∈ ks) = true := by simp [hxm]
         have HST2 : Hid (others ks (ns.take (k + 1)) = ss) := by unfold Hid; rw [HST.out, if_pos hxm]
         clear hxm HST
         go_wp2_with fail
         refine (contains_row x hl hvr).mono ?_
         rintro e w3 ⟨rfl, rfl⟩
         rw [hd]
         go_wp2
         exact ⟨⟨k + 1, ss, p8, c8, hlt, by simp, rfl, HST2.out.symm, hrow, hkw⟩, by simp [intOf]; omega⟩
       · have hd : decide (x ∈ ks) = false := by simp [hxm]
         have HST2 : Hid (others ks (ns.take (k + 1)) = ss ++ [x]) := by unfold Hid; rw [HST.out, if_neg hxm]
         clear hxm HST
         have h63 : Hid (ss.length + 1 ≤ maxLen) := by unfold Hid maxLen; omega
         have hbs : Hid ((ss.length + 1) * 16 ≤ 140737488355328) := by unfold Hid; omega
         have hbb : ∀ o, Hid (w2.heap.size ≤ (wr.alloc o).heap.size) := by intro o; unfold Hid; simp; omega
         go_wp2_with fail
         refine (contains_row x hl hvr).mono ?_
         rintro e w3 ⟨rfl, rfl⟩
         rw [hd]
         have hso := str_one x
         have HSO := hide hso
         clear hso
         go_wp2_with (first
           | (at_builtin; go_must (refine wpList_append_own_sl _ rfl (.tmp 31) (.tmp 33) 40 rfl w2.heap.size 9 i0 (.string ⟨#[]⟩) 1 16 Tryz.underlying40 hi hz0 hz1 hz2 rfl (Nat.zero_lt_succ 0) (.slice p8 ss.length c8) ss.length (ss.map encStr) rfl (hrow.alloc _) ⟨w3.heap.size, 0, none⟩ 1 1 [encStr x] rfl rfl (cells_at (heap_alloc_top w3 _) rfl) HSO.out h63.out hbs.out (hbb _).out ?_); intro p3 cp3 w4 hown3 hg3 hloc3)
           | go_in)
         have hk3 : Keeps w2 w4 (fun _ => False) := (hkw.more _).grow hg3 (fun k e hk => (by have := (hrow.lt k e).1; omega))
         have hlen3 : (ss ++ [x]).length = ss.length + 1 := by simp
         exact ⟨⟨k + 1, ss ++ [x], p3, cp3, hlt, by simp, by rw [hlen3], HST2.out.symm, by rw [hlen3]; simpa using hown3, hk3⟩, by simp [intOf]; omega⟩
     · have ek : k = ns.length := by omega
       have hss2 : ss = others ks ns := by rw [HSS.out, ek, List.take_length]
       rw [← hss2] at HRES
       have hmem : ∀ n ∈ ss, n.length < 1099511627776 := fun n hn => hkl n (by rw [hss2] at hn; exact (List.mem_filter.1 hn).1)
       have D2 := D1.same hkw
       have hρ2 : ∀ g, (Value.slice p8 ss.length c8).ownBlock = some g → ρ g = .none := fun g hg2 => by
         rcases Classical.em (ρ g = .none) with h | h
         · exact h
         · have h5 := R1.lt g h
           have h6 := (hrow.lt g hg2).1
           omega
       have hz3 : Maps.size (S.called false).safe + (S.called false).late.length + ss.length < 1099511627776 := by show Maps.size S.safe + S.late.length + ss.length < _; omega
       have HZ3 := hide hz3
       clear hz3 hss2 HSS
       go_wp2_with fail
       refine (filesRemove_any D2 (Z.called false) _ ss _ hrow hρ2 hmem (by omega) HZ3.out).mono ?_
       intro e w3 hp
       have hq := hp.before (g1.same hkw)
       rw [← HRES.out] at hq
       obtain ⟨ρ3, g3, D3, ⟨hok, rfl⟩ | ⟨hok, v1, rfl, he⟩⟩ := hp
       all_goals
         go_wp2
         go_ret
         exact hq
abbrev storeRow (dv nx la lo ba ru last mv : Value) (deg cl : Bool) : Array Value := #[dv, nx, la, lo, ba, ru, last, mv, .bool deg, .bool cl]
def refusalA (deg cl : Bool) : Int := if cl = true then 3 else if deg = true then 4 else 0
set_option maxRecDepth 100000 in
theorem refusal_any {w : World} {b : Nat} {t : TypeId} {dv nx la lo ba ru last mv : Value} {deg cl : Bool} (hb : w.heap[b]? = some (.cells (storeRow dv nx la lo ba ru last mv deg cl) t (0, 0))) :
   Calls Tryz.prog 60 #[.pointer (some ⟨b, 0, none⟩)] w fun e w' => e = .returned (.int .i64 (refusalA deg cl)) ∧ w' = w := by
 have d8 := cell_of_heap (o := 8) hb
 have d9 := cell_of_heap (o := 9) hb
 simp at d8 d9
 clear hb
 cases cl <;> cases deg
 all_goals
   go_enter Tryz.func60, Tryz.ntmps60
   go_wp2
   go_ret
   exact ⟨rfl, rfl⟩
set_option maxRecDepth 100000 in
theorem degrade_any {w : World} {b : Nat} {t : TypeId} {dv nx la lo ba ru last mv : Value} {deg cl : Bool} (hb : w.heap[b]? = some (.cells (storeRow dv nx la lo ba ru last mv deg cl) t (0, 0))) :
   Calls Tryz.prog 65 #[.pointer (some ⟨b, 0, none⟩)] w fun e w' => e = .returned (.int .i64 1) ∧ w'.heap[b]? = some (.cells (storeRow dv nx la lo ba ru last mv true cl) t (0, 0)) ∧ Keeps w w' (fun i => i = b) := by
 have d8 := cell_of_heap (o := 8) hb
 have f8 := frozen_of_heap (o := 8) hb
 simp at d8
 have HB := hide hb
 clear hb
 go_enter Tryz.func65, Tryz.ntmps65
 go_wp2
 go_ret
 exact ⟨rfl, (heap_setCell_at HB.out _).trans rfl, Keeps.setCell w _ _⟩
end Go.Proofs.YtnipbplghijdmaaGreatDoor
namespace Go.Proofs.YtnipbplghijdmaaGreatDoor
open Go.RowKit Go.Maps Go.WideShapes Go.Sort
set_option linter.unusedVariables false
abbrev Tok := Str × Nat
def tokE (p : Tok) : Lit × DataW Nat := (.string p.1, .held p.2)
structure Toks (D : DataW Nat) (T : List Tok) : Prop where
 es : ∃ es, D = .map es ∧ es.Perm (T.map tokE)
 apart : T.Pairwise (fun p q => p.1 ≠ q.1)
theorem Toks.nil : Toks (.map []) [] := ⟨⟨[], rfl, List.Perm.nil⟩, List.Pairwise.nil⟩
def without {α : Type} (T : List (Str × α)) (n : Str) : List (Str × α) := T.filter (fun p => decide (p.1 ≠ n))
theorem mem_without {α : Type} {T : List (Str × α)} {n : Str} {p : Str × α} : p ∈ without T n ↔ p ∈ T ∧ p.1 ≠ n := by simp [without]
theorem without_apart {α : Type} {T : List (Str × α)} (h : T.Pairwise (fun p q => p.1 ≠ q.1)) (n : Str) : (without T n).Pairwise (fun p q => p.1 ≠ q.1) := h.sublist List.filter_sublist
theorem sameKey_str (n m : Str) : (Lit.string n).sameKey (.string m) = decide (n = m) := by
 by_cases h : n = m
 · subst h
   rw [WideAt.sameKey_self (by trivial)]
   simp
 · rw [sameKey_ne (fun e => h (by injection e))]
   simp [h]
theorem filter_tok (T : List Tok) (n : Str) : (T.map tokE).filter (fun p => !p.1.sameKey (.string n)) = (without T n).map tokE := by
 induction T with
 | nil => rfl
 | cons x r ih =>
   unfold without at *
   rw [List.map_cons, List.filter_cons, List.filter_cons]
   show (if !(Lit.string x.1).sameKey (.string n) then _ else _) = _
   rw [sameKey_str]
   by_cases h : x.1 = n
   · simp [h, ih]
   · simp [h, ih]
theorem insert_perm (x : Lit × DataW Nat) (l : List (Lit × DataW Nat)) : (DataW.insert x l).Perm (x :: l) := by
 induction l with
 | nil => exact List.Perm.refl _
 | cons y r ih =>
   unfold DataW.insert
   split
   · exact List.Perm.refl _
   · exact (ih.cons y).trans (List.Perm.swap x y r)
theorem Toks.del {D : DataW Nat} {T : List Tok} (h : Toks D T) (n : Str) : Toks (D.del (.string n)) (without T n) := by
 obtain ⟨⟨es, rfl, q⟩, a⟩ := h
 exact ⟨⟨_, rfl, by rw [← filter_tok]; exact q.filter _⟩, without_apart a n⟩
theorem Toks.put {D : DataW Nat} {T : List Tok} (h : Toks D T) (n : Str) (f : Nat) : Toks (D.put (.string n) (.held f)) ((n, f) :: without T n) := by
 obtain ⟨⟨es, rfl, q⟩, a⟩ := h
 refine ⟨⟨_, rfl, (insert_perm _ _).trans ?_⟩, List.pairwise_cons.2 ⟨fun p hp => Ne.symm (mem_without.1 hp).2, without_apart a n⟩⟩
 rw [List.map_cons, ← filter_tok]
 exact (q.filter _).cons _
theorem Toks.at {D : DataW Nat} {T : List Tok} (h : Toks D T) {n : Str} {f : Nat} (hm : (n, f) ∈ T) (z : DataW Nat) : D.atKey (.string n) z = .held f := by
 obtain ⟨⟨es, rfl, q⟩, a⟩ := h
 have h1 : tokE (n, f) ∈ es := q.mem_iff.2 (List.mem_map.2 ⟨_, hm, rfl⟩)
 have h2 : es.Pairwise (fun p q => p.1 ≠ q.1) := by
   refine (q.pairwise_iff (fun e => Ne.symm e)).2 ?_
   rw [List.pairwise_map]
   exact a.imp (fun h e => h (by injection e))
 exact WideAt.atKey_mem (k := .string n) z (by trivial) h2 h1
theorem Toks.none {D : DataW Nat} {T : List Tok} (h : Toks D T) {n : Str} (hm : ∀ f, (n, f) ∉ T) (z : DataW Nat) : D.atKey (.string n) z = z := by
 obtain ⟨⟨es, rfl, q⟩, a⟩ := h
 have : es.find? (fun p => p.1.sameKey (.string n)) = Option.none := by
   refine List.find?_eq_none.2 (fun p hp => ?_)
   obtain ⟨t, ht, rfl⟩ := List.mem_map.1 (q.mem_iff.1 hp)
   show ¬ (Lit.string t.1).sameKey (.string n) = true
   rw [sameKey_str]
   intro e
   have e2 : t.1 = n := by simpa using e
   exact hm t.2 (by rw [← e2]; exact ht)
 simp only [DataW.atKey, this]
theorem sum_perm {l m : List Nat} (p : l.Perm m) : l.sum = m.sum := by
 induction p with
 | nil => rfl
 | cons x _ ih => simp [ih]
 | swap x y l => simp; omega
 | trans _ _ i j => exact i.trans j
theorem Toks.total {D : DataW Nat} {T : List Tok} (h : Toks D T) (fs : Nat → Option FileA) : total fs D = (T.map (fun p => ((fs p.2).elim 0 (fun a => a.bytes.length)))).sum := by
 obtain ⟨⟨es, rfl, q⟩, a⟩ := h
 unfold Go.Proofs.YtnipbplghijdmaaGreatDoor.total
 rw [sum_perm ((show (entriesOf (.map es)) = es from rfl) ▸ (q.map _))]
 rw [List.map_map]
 rfl
theorem Toks.keys {D : DataW Nat} {T : List Tok} (h : Toks D T) : (strKeys D).Perm (T.map Prod.fst) := by
 obtain ⟨⟨es, rfl, q⟩, a⟩ := h
 unfold strKeys
 refine (q.map _).trans ?_
 rw [List.map_map]
 exact List.Perm.of_eq (List.map_congr_left (fun p _ => rfl))
theorem Toks.size {D : DataW Nat} {T : List Tok} (h : Toks D T) : Maps.size D = T.length := by
 obtain ⟨⟨es, rfl, q⟩, a⟩ := h
 show es.length = _
 rw [q.length_eq, List.length_map]
structure Fs (S : DiskA) (T : List Tok) : Prop where
 toks : Toks S.names T
 files : ∀ p ∈ T, ∃ a, S.files p.2 = some a
 apart : T.Pairwise (fun p q => p.2 ≠ q.2)
def bytesAt (fs : Nat → Option FileA) (f : Nat) : List UInt8 := (fs f).elim [] FileA.bytes
def seenAs (fs : Nat → Option FileA) (T : List Tok) : List (Str × List UInt8) := T.map (fun p => (p.1, bytesAt fs p.2))
def View (S : DiskA) (V : List (Str × List UInt8)) : Prop := ∃ T, Fs S T ∧ V.Perm (seenAs S.files T)
def vput (V : List (Str × List UInt8)) (n : Str) (b : List UInt8) : List (Str × List UInt8) := (n, b) :: without V n
def vsize (V : List (Str × List UInt8)) : Nat := (V.map (fun p => p.2.length)).sum
theorem vsize_perm {V U : List (Str × List UInt8)} (p : V.Perm U) : vsize V = vsize U := sum_perm (p.map _)
theorem vsize_cons (p : Str × List UInt8) (V : List (Str × List UInt8)) : vsize (p :: V) = p.2.length + vsize V := by simp [vsize]
theorem vsize_without_le (V : List (Str × List UInt8)) (n : Str) : vsize (without V n) ≤ vsize V := by
 induction V with
 | nil => simp [without, vsize]
 | cons x r ih =>
   unfold without at *
   rw [List.filter_cons]
   split
   · rw [vsize_cons, vsize_cons]; omega
   · rw [vsize_cons]; omega
theorem vsize_without {V : List (Str × List UInt8)} (h : V.Pairwise (fun p q => p.1 ≠ q.1)) {n : Str} {b : List UInt8} (hm : (n, b) ∈ V) : vsize (without V n) + b.length = vsize V := by
 induction V with
 | nil => cases hm
 | cons x r ih =>
   obtain ⟨h1, h2⟩ := List.pairwise_cons.1 h
   rcases List.mem_cons.1 hm with rfl | hm
   · have e : without ((n, b) :: r) n = r := by
       unfold without
       rw [List.filter_cons_of_neg (by simp)]
       exact List.filter_eq_self.2 (fun p hp => by simpa using fun e => h1 p hp e.symm)
     rw [e, vsize_cons]
     show vsize r + b.length = b.length + vsize r
     omega
   · have e : without (x :: r) n = x :: without r n := by
       unfold without
       rw [List.filter_cons_of_pos (by simpa using h1 _ hm)]
     rw [e, vsize_cons, vsize_cons, ← ih h2 hm]
     omega
theorem View.perm {S : DiskA} {V U : List (Str × List UInt8)} (h : View S V) (p : U.Perm V) : View S U := by
 obtain ⟨T, F, q⟩ := h
 exact ⟨T, F, p.trans q⟩
theorem seen_without (fs : Nat → Option FileA) (T : List Tok) (n : Str) : without (seenAs fs T) n = seenAs fs (without T n) := by
 unfold seenAs without
 rw [List.filter_map]
 rfl
theorem View.apart {S : DiskA} {V : List (Str × List UInt8)} (h : View S V) : V.Pairwise (fun p q => p.1 ≠ q.1) := by
 obtain ⟨T, F, q⟩ := h
 refine (q.pairwise_iff (fun e => Ne.symm e)).2 ?_
 unfold seenAs
 rw [List.pairwise_map]
 exact F.toks.apart
theorem Fs.at {S : DiskA} {T : List Tok} (h : Fs S T) {n : Str} {f : Nat} : S.at n = some f ↔ (n, f) ∈ T := by
 unfold DiskA.at
 constructor
 · intro e
   rcases Classical.em (∃ g, (n, g) ∈ T) with ⟨g, hg⟩ | hn
   · rw [h.toks.at hg] at e
     cases e
     exact hg
   · rw [h.toks.none (fun f hf => hn ⟨f, hf⟩)] at e
     cases e
 · intro e
   rw [h.toks.at e]
   rfl
theorem View.get {S : DiskA} {V : List (Str × List UInt8)} (h : View S V) {n : Str} {b : List UInt8} (hm : (n, b) ∈ V) : ∃ f a, S.at n = some f ∧ S.files f = some a ∧ a.bytes = b := by
 obtain ⟨T, F, q⟩ := h
 obtain ⟨t, ht, e⟩ := List.mem_map.1 (q.mem_iff.1 hm)
 obtain ⟨a, ha⟩ := F.files t ht
 injection e with e1 e2
 refine ⟨t.2, a, ?_, ha, ?_⟩
 · rw [F.at, ← e1]; exact ht
 · rw [← e2]; unfold bytesAt; rw [ha]; rfl
theorem View.of {S : DiskA} {V : List (Str × List UInt8)} (h : View S V) {n : Str} {f : Nat} {a : FileA} (hA : S.at n = some f) (ha : S.files f = some a) : (n, a.bytes) ∈ V := by
 obtain ⟨T, F, q⟩ := h
 refine q.mem_iff.2 (List.mem_map.2 ⟨(n, f), F.at.1 hA, ?_⟩)
 unfold bytesAt
 rw [ha]
 rfl
theorem View.one {S : DiskA} {V : List (Str × List UInt8)} (h : View S V) {n : Str} {b c : List UInt8} (hb : (n, b) ∈ V) (hc : (n, c) ∈ V) : b = c := by
 obtain ⟨f, a, h1, h2, rfl⟩ := h.get hb
 obtain ⟨g, d, h3, h4, rfl⟩ := h.get hc
 rw [h1] at h3; cases h3
 rw [h2] at h4; cases h4
 rfl
theorem View.total {S : DiskA} {V : List (Str × List UInt8)} (h : View S V) : total S.files S.names = vsize V := by
 obtain ⟨T, F, q⟩ := h
 rw [F.toks.total, vsize_perm q]
 unfold vsize seenAs
 rw [List.map_map]
 congr 1
 refine List.map_congr_left (fun p _ => ?_)
 simp only [Function.comp, bytesAt]
 cases S.files p.2 <;> rfl
theorem View.keys {S : DiskA} {V : List (Str × List UInt8)} (h : View S V) : S.keys.Perm (V.map Prod.fst) := by
 obtain ⟨T, F, q⟩ := h
 unfold DiskA.keys
 refine (List.mergeSort_perm _ _).trans (F.toks.keys.trans ?_)
 have := q.map Prod.fst
 unfold seenAs at this
 rw [List.map_map] at this
 exact this.symm
theorem View.count {S : DiskA} {V : List (Str × List UInt8)} (h : View S V) : Maps.size S.names = V.length := by
 obtain ⟨T, F, q⟩ := h
 rw [F.toks.size, q.length_eq]
 simp [seenAs]
theorem View.like {S S' : DiskA} {V : List (Str × List UInt8)} (h : View S V) (h1 : S'.names = S.names) (h2 : S'.files = S.files) : View S' V := by
 obtain ⟨T, F, q⟩ := h
 exact ⟨T, ⟨h1 ▸ F.toks, by rw [h2]; exact F.files, F.apart⟩, by rw [h2]; exact q⟩
theorem View.called {S : DiskA} {V : List (Str × List UInt8)} (h : View S V) (ch : Bool) : View (S.called ch) V := h.like rfl rfl
theorem View.write {S : DiskA} {V : List (Str × List UInt8)} (h : View S V) {n : Str} {f : Nat} (hA : S.at n = some f) (a' : FileA) : View (S.withFile f a') (vput V n a'.bytes) := by
 obtain ⟨T, F, q⟩ := h
 have hm := F.at.1 hA
 refine ⟨T, ⟨F.toks, fun p hp => ?_, F.apart⟩, ?_⟩
 · by_cases e : p.2 = f
   · exact ⟨a', by simp [DiskA.withFile, e]⟩
   · obtain ⟨a, ha⟩ := F.files p hp
     exact ⟨a, by simp [DiskA.withFile, e, ha]⟩
 · have hT : T.Perm ((n, f) :: without T n) := by
     have H : ∀ {T : List Tok}, T.Pairwise (fun p q => p.1 ≠ q.1) → (n, f) ∈ T → T.Perm ((n, f) :: without T n) := by
       intro T
       induction T with
       | nil => intro _ h; cases h
       | cons x r ih =>
         intro hp hm
         obtain ⟨h1, h2⟩ := List.pairwise_cons.1 hp
         rcases List.mem_cons.1 hm with rfl | hm
         · have e : without ((n, f) :: r) n = r := by
             unfold without
             rw [List.filter_cons_of_neg (by simp)]
             exact List.filter_eq_self.2 (fun p hp => by simpa using fun e => h1 p hp e.symm)
           rw [e]
         · have e : without (x :: r) n = x :: without r n := by
             unfold without
             rw [List.filter_cons_of_pos (by simpa using h1 _ hm)]
           rw [e]
           exact ((ih h2 hm).cons x).trans (List.Perm.swap _ _ _)
     exact H F.toks.apart hm
   have q2 : (without V n).Perm (seenAs S.files (without T n)) := by rw [← seen_without]; exact q.filter _
   have e : seenAs (S.withFile f a').files ((n, f) :: without T n) = (n, a'.bytes) :: seenAs S.files (without T n) := by
     unfold seenAs
     rw [List.map_cons]
     congr 1
     · simp [bytesAt, DiskA.withFile]
     · refine List.map_congr_left (fun p hp => ?_)
       obtain ⟨hp1, hp2⟩ := mem_without.1 hp
       have hne : p.2 ≠ f := by
         intro e
         have H : ∀ {T : List Tok}, T.Pairwise (fun p q => p.2 ≠ q.2) → ∀ a ∈ T, ∀ b ∈ T, a.2 = b.2 → a = b := by
           intro T
           induction T with
           | nil => intro _ a ha; cases ha
           | cons x r ih =>
             intro hp a ha b hb e
             obtain ⟨h1, h2⟩ := List.pairwise_cons.1 hp
             rcases List.mem_cons.1 ha with ea | ha' <;> rcases List.mem_cons.1 hb with eb | hb'
             · exact ea.trans eb.symm
             · exact (h1 b hb' (ea ▸ e)).elim
             · exact (h1 a ha' (eb ▸ e.symm)).elim
             · exact ih h2 a ha' b hb' e
         have := H F.apart p hp1 (n, f) hm e
         exact hp2 (by rw [this])
       simp [bytesAt, DiskA.withFile, hne]
   exact (q2.cons _).trans ((List.Perm.of_eq e.symm).trans ((hT.map _).symm))
theorem perm_vput {V : List (Str × List UInt8)} (h : V.Pairwise (fun p q => p.1 ≠ q.1)) {n : Str} {b : List UInt8} (hm : (n, b) ∈ V) : V.Perm (vput V n b) := by
 unfold vput
 induction V with
 | nil => cases hm
 | cons x r ih =>
   obtain ⟨h1, h2⟩ := List.pairwise_cons.1 h
   rcases List.mem_cons.1 hm with rfl | hm
   · have e : without ((n, b) :: r) n = r := by
       unfold without
       rw [List.filter_cons_of_neg (by simp)]
       exact List.filter_eq_self.2 (fun p hp => by simpa using fun e => h1 p hp e.symm)
     rw [e]
   · have e : without (x :: r) n = x :: without r n := by
       unfold without
       rw [List.filter_cons_of_pos (by simpa using h1 _ hm)]
     rw [e]
     exact ((ih h2 hm).cons x).trans (List.Perm.swap _ _ _)
theorem View.synced {S : DiskA} {V : List (Str × List UInt8)} (h : View S V) {n : Str} {f : Nat} {a : FileA} (hA : S.at n = some f) (ha : S.files f = some a) : View (S.withFile f a.synced) V :=
 by
 have h1 : (n, a.synced.bytes) ∈ V := by have := h.of hA ha; exact this
 exact (h.write hA a.synced).perm (perm_vput h.apart h1)
theorem View.create {S : DiskA} {V : List (Str × List UInt8)} (h : View S V) {f : Nat} (hf : S.files f = Option.none) {n : Str} (hn : n ≠ []) : View ((S.withFile f newFile).named ⟨n, [], [], some f⟩) (vput V n []) := by
 obtain ⟨T, F, q⟩ := h
 have hd : (((S.withFile f newFile).named ⟨n, [], [], some f⟩)).names = S.names.put (.string n) (.held f) := by
   have hn2 : n.isEmpty = false := by cases n <;> simp_all
   simp [DiskA.named, doA, hn2, heldD, DiskA.withFile]
 have hnew : ∀ p ∈ without T n, p.2 ≠ f := fun p hp e => by
   obtain ⟨a, ha⟩ := F.files p (mem_without.1 hp).1
   rw [e, hf] at ha; cases ha
 refine ⟨(n, f) :: without T n, ⟨by rw [hd]; exact F.toks.put n f, fun p hp => ?_, ?_⟩, ?_⟩
 · rcases List.mem_cons.1 hp with rfl | hp
   · exact ⟨newFile, by simp [DiskA.named, DiskA.withFile]⟩
   · obtain ⟨a, ha⟩ := F.files p (mem_without.1 hp).1
     exact ⟨a, by simp [DiskA.named, DiskA.withFile, hnew p hp, ha]⟩
 · exact List.pairwise_cons.2 ⟨fun p hp => Ne.symm (hnew p hp), F.apart.sublist List.filter_sublist⟩
 · have q2 : (without V n).Perm (seenAs S.files (without T n)) := by rw [← seen_without]; exact q.filter _
   refine (q2.cons (n, [])).trans (List.Perm.of_eq ?_)
   unfold seenAs
   rw [List.map_cons]
   congr 1
   · simp [bytesAt, DiskA.named, DiskA.withFile, newFile]
   · refine List.map_congr_left (fun p hp => ?_)
     simp [bytesAt, DiskA.named, DiskA.withFile, hnew p hp]
theorem View.removed {S : DiskA} {V : List (Str × List UInt8)} (h : View S V) (n : Str) : View (S.named ⟨[], n, [], Option.none⟩) (without V n) := by
 obtain ⟨T, F, q⟩ := h
 refine ⟨without T n, ⟨?_, fun p hp => F.files p (mem_without.1 hp).1, F.apart.sublist List.filter_sublist⟩, ?_⟩
 · show Toks (doA S.names ⟨[], n, [], Option.none⟩) _
   exact F.toks.del n
 · rw [← seen_without]
   exact q.filter _
theorem View.renamed {S : DiskA} {V : List (Str × List UInt8)} (h : View S V) {sr ds : Str} (hds : ds ≠ []) (hne : ds ≠ sr) {f : Nat} {a : FileA} (hA : S.at sr = some f) (ha : S.files f = some a) :
   View (S.named ⟨[], sr, ds, some f⟩) (vput (without V sr) ds a.bytes) := by
 obtain ⟨T, F, q⟩ := h
 have hm := F.at.1 hA
 have hn2 : ds.isEmpty = false := by cases ds <;> simp_all
 have hd : (S.named ⟨[], sr, ds, some f⟩).names = (S.names.put (.string ds) (.held f)).del (.string sr) := by
   simp [DiskA.named, doA, hn2, heldD, hne]
 have ht := (F.toks.put ds f).del sr
 have e : without ((ds, f) :: without T ds) sr = (ds, f) :: without (without T sr) ds := by
   unfold without
   rw [List.filter_cons_of_pos (by simpa using hne), List.filter_filter, List.filter_filter]
   congr 1
   refine List.filter_congr (fun p _ => ?_)
   rw [Bool.and_comm]
 rw [e] at ht
 have hother : ∀ p ∈ without (without T sr) ds, p.2 ≠ f := fun p hp e => by
   have h1 := (mem_without.1 (mem_without.1 hp).1)
   have H : ∀ {T : List Tok}, T.Pairwise (fun p q => p.2 ≠ q.2) → ∀ a ∈ T, ∀ b ∈ T, a.2 = b.2 → a = b := by
     intro T
     induction T with
     | nil => intro _ a ha; cases ha
     | cons x r ih =>
       intro hp a ha b hb e
       obtain ⟨h1, h2⟩ := List.pairwise_cons.1 hp
       rcases List.mem_cons.1 ha with ea | ha' <;> rcases List.mem_cons.1 hb with eb | hb'
       · exact ea.trans eb.symm
       · exact (h1 b hb' (ea ▸ e)).elim
       · exact (h1 a ha' (eb ▸ e.symm)).elim
       · exact ih h2 a ha' b hb' e
   exact h1.2 (by rw [H F.apart p h1.1 (sr, f) hm e])
 refine ⟨(ds, f) :: without (without T sr) ds, ⟨by rw [hd]; exact ht, fun p hp => ?_, ?_⟩, ?_⟩
 · rcases List.mem_cons.1 hp with rfl | hp
   · exact ⟨a, ha⟩
   · exact F.files p (mem_without.1 (mem_without.1 hp).1).1
 · exact List.pairwise_cons.2 ⟨fun p hp => Ne.symm (hother p hp), (F.apart.sublist List.filter_sublist).sublist List.filter_sublist⟩
 · have q2 : (without (without V sr) ds).Perm (seenAs S.files (without (without T sr) ds)) := by
     rw [← seen_without, ← seen_without]; exact (q.filter _).filter _
   refine (q2.cons (ds, a.bytes)).trans (List.Perm.of_eq ?_)
   unfold seenAs
   rw [List.map_cons]
   congr 1
   simp only [bytesAt, DiskA.named, ha]
   rfl
structure Fit (k : Nat) (S : DiskA) : Prop where
 fs : ∃ T, Fs S T
 names : Maps.size S.names ≤ k
 safe : Maps.size S.safe + S.late.length ≤ k
 safeMap : IsMap S.safe
 files : ∀ f a, S.files f = some a → a.bytes.length ≤ k ∧ a.late.length ≤ k ∧ a.safe ≤ k
 total : total S.files S.names ≤ k
 keys : ∀ n ∈ S.keys, n.length ≤ k
theorem Fit.view {k : Nat} {S : DiskA} (h : Fit k S) : ∃ V, View S V := by
 obtain ⟨T, F⟩ := h.fs
 exact ⟨_, T, F, List.Perm.refl _⟩
theorem View.fs {S : DiskA} {V : List (Str × List UInt8)} (h : View S V) : ∃ T, Fs S T := by
 obtain ⟨T, F, _⟩ := h
 exact ⟨T, F⟩
theorem Fit.mono {k m : Nat} {S : DiskA} (h : Fit k S) (hm : k ≤ m) : Fit m S :=
 ⟨h.fs, Nat.le_trans h.names hm, Nat.le_trans h.safe hm, h.safeMap, fun f a ha => ⟨Nat.le_trans (h.files f a ha).1 hm, Nat.le_trans (h.files f a ha).2.1 hm, Nat.le_trans (h.files f a ha).2.2 hm⟩, Nat.le_trans h.total hm, fun n hn => Nat.le_trans (h.keys n hn) hm⟩
theorem Fit.small {k : Nat} {S : DiskA} (h : Fit k S) (hk : k < 549755813888) : Small S :=
 ⟨by have := h.names; omega, by have := h.safe; omega, by have := h.safe; omega, fun f a ha => by have := h.files f a ha; omega⟩
theorem Fit.like {k : Nat} {S S' : DiskA} (h : Fit k S) (h1 : S'.names = S.names) (h2 : S'.files = S.files) (h3 : S'.safe = S.safe) (h4 : S'.late = S.late) : Fit k S' := by
 obtain ⟨V, hV⟩ := h.view
 exact ⟨(hV.like h1 h2).fs, by rw [h1]; exact h.names, by rw [h3, h4]; exact h.safe, by rw [h3]; exact h.safeMap, by rw [h2]; exact h.files, by rw [h1, h2]; exact h.total, by unfold DiskA.keys; rw [h1]; exact h.keys⟩
theorem Fit.called {k : Nat} {S : DiskA} (h : Fit k S) (ch : Bool) : Fit k (S.called ch) := h.like rfl rfl rfl rfl
theorem Fit.write {k : Nat} {S : DiskA} (h : Fit k S) {n : Str} {f : Nat} {a : FileA} (hA : S.at n = some f) (ha : S.files f = some a) {c : Nat} {a' : FileA} (hb : a'.bytes.length ≤ a.bytes.length + c) (hl : a'.late.length ≤ a.late.length + c) (hs : a'.safe ≤ k + c) : Fit (k + c) (S.withFile f a') := by
 obtain ⟨V, hV⟩ := h.view
 have hW := hV.write hA a'
 have hm := hV.of hA ha
 refine ⟨hW.fs, Nat.le_trans h.names (by omega), Nat.le_trans h.safe (by omega), h.safeMap, fun g b hg => ?_, ?_, fun n hn => Nat.le_trans (h.keys n hn) (by omega)⟩
 · by_cases e : g = f
   · simp [DiskA.withFile, e] at hg
     subst hg
     have := h.files f a ha
     omega
   · simp [DiskA.withFile, e] at hg
     have := h.files g b hg
     omega
 · rw [hW.total]
   have h1 := vsize_without hV.apart hm
   have h2 := h.total
   rw [hV.total] at h2
   unfold vput
   rw [vsize_cons]
   show a'.bytes.length + vsize (without V n) ≤ k + c
   omega
theorem Fit.synced {k : Nat} {S : DiskA} (h : Fit k S) {n : Str} {f : Nat} {a : FileA} (hA : S.at n = some f) (ha : S.files f = some a) : Fit k (S.withFile f a.synced) :=
 h.write (c := 0) hA ha (by simp [FileA.synced]) (by simp [FileA.synced]) (by have := h.files f a ha; simp [FileA.synced]; omega)
theorem Fit.put {k : Nat} {S : DiskA} (h : Fit k S) {n : Str} {f : Nat} {a : FileA} (hA : S.at n = some f) (ha : S.files f = some a) (src : List UInt8) : Fit (k + src.length) (S.withFile f (a.put src)) := by
 have h0 := h.files f a ha
 by_cases e : src = []
 · refine h.write hA ha ?_ ?_ ?_
   all_goals (simp [FileA.put, e]; try omega)
 · have : 0 < src.length := List.length_pos_iff.2 e
   refine h.write hA ha ?_ ?_ ?_
   all_goals (simp [FileA.put, e]; try omega)
theorem size_put_le (D : DataW Nat) (k : Lit) (d : DataW Nat) : Maps.size (D.put k d) ≤ Maps.size D + 1 := by
 cases D with
 | map es =>
   show (DataW.insert (k, d) (es.filter fun p => !p.1.sameKey k)).length ≤ es.length + 1
   rw [(insert_perm _ _).length_eq, List.length_cons]
   have := List.length_filter_le (fun p : Lit × DataW Nat => !p.1.sameKey k) es
   omega
 | _ => exact Nat.le_succ _
theorem size_del_le (D : DataW Nat) (k : Lit) : Maps.size (D.del k) ≤ Maps.size D := by
 cases D with
 | map es => exact List.length_filter_le _ _
 | _ => exact Nat.le_refl _
theorem size_do_le (D : DataW Nat) (c : ChangeA) : Maps.size (doA D c) ≤ Maps.size D + 1 := by
 unfold doA
 split
 · exact size_put_le _ _ _
 · split
   · split
     · exact Nat.le_trans (size_del_le _ _) (size_put_le _ _ _)
     · exact size_put_le _ _ _
   · exact Nat.le_trans (size_del_le _ _) (Nat.le_succ _)
theorem isMap_doA {D : DataW Nat} (h : IsMap D) (c : ChangeA) : IsMap (doA D c) := by
 unfold doA
 split
 · exact h.put _ _
 · split
   · split
     · exact (h.put _ _).del _
     · exact h.put _ _
   · exact h.del _
theorem size_foldl_le (l : List ChangeA) (D : DataW Nat) : Maps.size (l.foldl doA D) ≤ Maps.size D + l.length := by
 induction l generalizing D with
 | nil => exact Nat.le_refl _
 | cons c r ih =>
   have h1 := ih (doA D c)
   have h2 := size_do_le D c
   rw [List.foldl_cons, List.length_cons]
   omega
theorem isMap_foldl (l : List ChangeA) {D : DataW Nat} (h : IsMap D) : IsMap (l.foldl doA D) := by
 induction l generalizing D with
 | nil => exact h
 | cons c r ih => exact ih (isMap_doA h c)
theorem Fit.named {k : Nat} {S : DiskA} (h : Fit k S) {V U : List (Str × List UInt8)} (hV : View S V) {c : ChangeA} (hU : View (S.named c) U) (hs : vsize U ≤ vsize V) {m : Nat} (hk : ∀ n ∈ U.map Prod.fst, n.length ≤ k + m) : Fit (k + 1 + m) (S.named c) := by
 have h1 := size_do_le S.names c
 have h2 := h.names
 have h3 := h.safe
 have h4 := h.total
 rw [hV.total] at h4
 refine ⟨hU.fs, by show Maps.size (doA S.names c) ≤ _; omega, ?_, h.safeMap, fun f a ha => ?_, ?_, fun n hn => ?_⟩
 · show Maps.size S.safe + (S.late ++ [c]).length ≤ _
   rw [List.length_append, List.length_singleton]
   omega
 · have := h.files f a ha
   omega
 · rw [hU.total]; omega
 · have := hk n (hU.keys.mem_iff.1 hn)
   omega
theorem Fit.key {k : Nat} {S : DiskA} (h : Fit k S) {V : List (Str × List UInt8)} (hV : View S V) : ∀ n ∈ V.map Prod.fst, n.length ≤ k := fun n hn => h.keys n (hV.keys.mem_iff.2 hn)
theorem vput_key {V : List (Str × List UInt8)} {n m : Str} {b : List UInt8} (h : m ∈ (vput V n b).map Prod.fst) : m = n ∨ m ∈ V.map Prod.fst := by
 unfold vput at h
 rw [List.map_cons] at h
 rcases List.mem_cons.1 h with h | h
 · exact .inl h
 · obtain ⟨p, hp, e⟩ := List.mem_map.1 h
   exact .inr (List.mem_map.2 ⟨p, (mem_without.1 hp).1, e⟩)
theorem Fit.create {k : Nat} {S : DiskA} (h : Fit k S) {f : Nat} (hf : S.files f = none) {n : Str} (hn : n ≠ []) : Fit (k + 1 + n.length) ((S.withFile f newFile).named ⟨n, [], [], some f⟩) := by
 obtain ⟨V, hV⟩ := h.view
 have hU := hV.create hf hn
 obtain ⟨T, F, q⟩ := hV
 have hne : ∀ p ∈ T, p.2 ≠ f := fun p hp e => by obtain ⟨a, ha⟩ := F.files p hp; rw [e, hf] at ha; cases ha
 have hV' : View (S.withFile f newFile) V := by
   refine ⟨T, ⟨F.toks, fun p hp => ?_, F.apart⟩, q.trans (List.Perm.of_eq ?_)⟩
   · obtain ⟨a, ha⟩ := F.files p hp
     exact ⟨a, by simp [DiskA.withFile, hne p hp, ha]⟩
   · refine List.map_congr_left (fun p hp => ?_)
     simp [bytesAt, DiskA.withFile, hne p hp]
 have h' : Fit k (S.withFile f newFile) := by
   refine ⟨hV'.fs, h.names, h.safe, h.safeMap, fun g a hg => ?_, ?_, h.keys⟩
   · by_cases e : g = f
     · simp [DiskA.withFile, e] at hg
       subst hg
       simp [newFile]
     · simp [DiskA.withFile, e] at hg
       exact h.files g a hg
   · rw [hV'.total]
     have := h.total
     rwa [View.total ⟨T, F, q⟩] at this
 refine h'.named hV' hU ?_ (fun m hm => ?_)
 · unfold vput
   rw [vsize_cons]
   have := vsize_without_le V n
   show 0 + vsize (without V n) ≤ vsize V
   omega
 · rcases vput_key hm with rfl | hm
   · omega
   · have := h'.key hV' m hm
     omega
theorem Fit.removed {k : Nat} {S : DiskA} (h : Fit k S) (n : Str) : Fit (k + 1) (S.named ⟨[], n, [], none⟩) := by
 obtain ⟨V, hV⟩ := h.view
 refine h.named (m := 0) hV (hV.removed n) (vsize_without_le V n) (fun m hm => ?_)
 obtain ⟨p, hp, e⟩ := List.mem_map.1 hm
 exact h.key hV m (List.mem_map.2 ⟨p, (mem_without.1 hp).1, e⟩)
theorem Fit.renamed {k : Nat} {S : DiskA} (h : Fit k S) {sr ds : Str} (hds : ds ≠ []) (hne : ds ≠ sr) {f : Nat} {a : FileA} (hA : S.at sr = some f) (ha : S.files f = some a) : Fit (k + 1 + ds.length) (S.named ⟨[], sr, ds, some f⟩) := by
 obtain ⟨V, hV⟩ := h.view
 have hU := hV.renamed hds hne hA ha
 refine h.named (m := ds.length) hV hU ?_ (fun m hm => ?_)
 · have h1 := vsize_without hV.apart (hV.of hA ha)
   have h2 := vsize_without_le (without V sr) ds
   unfold vput
   rw [vsize_cons]
   show a.bytes.length + _ ≤ _
   omega
 · rcases vput_key hm with rfl | hm
   · omega
   · obtain ⟨p, hp, e⟩ := List.mem_map.1 hm
     have := h.key hV m (List.mem_map.2 ⟨p, (mem_without.1 hp).1, e⟩)
     omega
theorem Fit.dirA {k : Nat} {S : DiskA} (h : Fit k S) : Fit k S.dirA.1 := by
 unfold DiskA.dirA
 split
 · exact h.called true
 · have h1 := size_foldl_le S.late S.safe
   have h2 := h.safe
   obtain ⟨V, hV⟩ := h.view
   exact ⟨(hV.like (S' := { S.called true with safe := S.late.foldl doA S.safe, late := [] }) rfl rfl).fs, h.names, by show Maps.size (S.late.foldl doA S.safe) + 0 ≤ k; omega, isMap_foldl _ h.safeMap, h.files, h.total, h.keys⟩
theorem Fit.syncA {k : Nat} {S : DiskA} (h : Fit k S) (n : Str) : Fit k (S.syncA n).1 := by
 unfold DiskA.syncA
 split
 · exact h.called true
 · split
   · exact h.called true
   · rename_i f hA
     split
     · exact h.called true
     · rename_i a ha
       exact (h.called true).synced (n := n) hA ha
theorem Fit.sureA {k : Nat} {S : DiskA} (h : Fit k S) (ns : List Str) : Fit k (DiskA.sureA ns S).1 := by
 induction ns generalizing S with
 | nil => exact h.dirA
 | cons n r ih =>
   unfold DiskA.sureA
   split
   · exact ih (h.syncA n)
   · exact h.syncA n
theorem Fit.removeA {k : Nat} {S : DiskA} (h : Fit k S) (n : Str) : Fit (k + 1) (S.removeA n).1 := by
 unfold DiskA.removeA
 split
 · exact (h.called true).mono (by omega)
 · split
   · exact (h.called true).mono (by omega)
   · exact (h.called true).removed n
theorem Fit.renameA {k : Nat} {S : DiskA} (h : Fit k S) {sr ds : Str} (hne : ds ≠ sr) : Fit (k + 1 + ds.length) (S.renameA sr ds).1 := by
 unfold DiskA.renameA
 split
 · exact (h.called true).mono (by omega)
 · split
   · exact (h.called true).mono (by omega)
   · rename_i f hA
     split
     · exact (h.called true).mono (by omega)
     · rename_i hds
       obtain ⟨T, F⟩ := h.fs
       obtain ⟨a, ha⟩ := F.files _ (F.at.1 hA)
       exact (h.called true).renamed hds hne (sr := sr) hA ha
theorem Fit.removesA {k : Nat} {S : DiskA} (h : Fit k S) (ns : List Str) : Fit (k + ns.length) (DiskA.removesA ns S).1 := by
 induction ns generalizing S k with
 | nil => exact h
 | cons n r ih =>
   unfold DiskA.removesA
   split
   · exact (ih (h.removeA n)).mono (by rw [List.length_cons]; omega)
   · exact (h.removeA n).mono (by rw [List.length_cons]; omega)
theorem Fit.thenDir {k : Nat} {F : DiskA × Bool} (h : Fit k F.1) : Fit k (Go.Proofs.YtnipbplghijdmaaGreatDoor.thenDir F).1 := by
 unfold Go.Proofs.YtnipbplghijdmaaGreatDoor.thenDir
 split
 · exact h.dirA
 · exact h
theorem Fit.removeAllA {k : Nat} {S : DiskA} (h : Fit k S) (ns : List Str) : Fit (k + ns.length) (DiskA.removeAllA ns S).1 := by
 unfold DiskA.removeAllA
 split
 · exact h.mono (by omega)
 · exact (h.removesA ns).thenDir
theorem Fit.clearA {k : Nat} {S : DiskA} (h : Fit k S) (ks : List Str) : Fit (k + S.keys.length) (DiskA.clearA ks S).1 := by
 unfold DiskA.clearA
 split
 · exact (h.called false).mono (by omega)
 · refine ((h.called false).removeAllA _).mono ?_
   have : (others ks S.keys).length ≤ S.keys.length := List.length_filter_le _ _
   omega
theorem Fit.keys_length {k : Nat} {S : DiskA} (h : Fit k S) : S.keys.length ≤ k := by
 obtain ⟨V, hV⟩ := h.view
 rw [hV.keys.length_eq, List.length_map, ← hV.count]
 exact h.names
theorem Fit.new : Fit 0 DiskA.new := by
 refine ⟨⟨[], ⟨Toks.nil, fun p hp => (by cases hp), List.Pairwise.nil⟩⟩, Nat.le_refl _, Nat.le_refl _, ⟨[], rfl⟩, fun f a h => (by cases h), Nat.le_refl _, fun n hn => ?_⟩
 have : DiskA.new.keys = [] := by simp [DiskA.keys, DiskA.new, strKeys]
 rw [this] at hn
 cases hn
abbrev DStep := DiskA → DiskA → Bool → Prop
def Fn (f : DiskA → DiskA × Bool) : DStep := fun S S' ok => f S = (S', ok)
def InTurn : List DStep → DStep
 | [], S, S', ok => S' = S ∧ ok = true
 | R :: r, S, S', ok => (R S S' false ∧ ok = false) ∨ ∃ S1, R S S1 true ∧ InTurn r S1 S' ok
def AppR (nm : Str) (b : List UInt8) : DStep := fun S S' ok => ∃ f a, S.at nm = some f ∧ S.files f = some a ∧
 (((S.bad = true ∨ 20000 < b.length + total S.files S.names) ∧ S' = (S.called true).withFile f (a.put (b.take (b.length / 2))) ∧ ok = false) ∨
  (S.bad = false ∧ b.length + total S.files S.names ≤ 20000 ∧ S' = (S.called true).withFile f (a.put b) ∧ ok = true))
def CreR (nm : Str) : DStep := fun S S' ok =>
 (S.bad = true ∧ S' = S.called true ∧ ok = false) ∨ (S.bad = false ∧ ok = true ∧ ∃ f, S.files f = none ∧ S' = ((S.called true).withFile f newFile).named ⟨nm, [], [], some f⟩)
def LayR (nm : Str) (b : List UInt8) : DStep := if b = [] then CreR nm else InTurn [CreR nm, AppR nm b]
def manifestName : Str := [109, 97, 110, 105, 102, 101, 115, 116]
def tmpName : Str := [109, 97, 110, 105, 102, 101, 115, 116, 46, 116, 109, 112]
theorem Fit.appR {k : Nat} {S S' : DiskA} {ok : Bool} {nm : Str} {b : List UInt8} (h : Fit k S) (r : AppR nm b S S' ok) : Fit (k + b.length) S' := by
 obtain ⟨f, a, hA, ha, ⟨_, rfl, _⟩ | ⟨_, _, rfl, _⟩⟩ := r
 · exact ((h.called true).put (n := nm) hA ha _).mono (by rw [List.length_take]; omega)
 · exact (h.called true).put (n := nm) hA ha _
theorem Fit.creR {k : Nat} {S S' : DiskA} {ok : Bool} {nm : Str} (h : Fit k S) (hn : nm ≠ []) (r : CreR nm S S' ok) : Fit (k + 1 + nm.length) S' := by
 obtain ⟨_, rfl, _⟩ | ⟨_, _, f, hf, rfl⟩ := r
 · exact (h.called true).mono (by omega)
 · exact (h.called true).create hf hn
theorem Fit.layR {k : Nat} {S S' : DiskA} {ok : Bool} {nm : Str} {b : List UInt8} (h : Fit k S) (hn : nm ≠ []) (r : LayR nm b S S' ok) : Fit (k + 1 + nm.length + b.length) S' := by
 unfold LayR at r
 split at r
 · exact (h.creR hn r).mono (by omega)
 · obtain ⟨r, _⟩ | ⟨S1, r1, r2⟩ := r
   · exact (h.creR hn r).mono (by omega)
   · have h1 := h.creR hn r1
     obtain ⟨r, _⟩ | ⟨S2, r3, rfl, _⟩ := r2
     · exact h1.appR r
     · exact h1.appR r3
structure Well (S : DiskA) : Prop where
 fail : S.fail = -1
 cut : S.cut = -1
theorem Well.bad {S : DiskA} (h : Well S) : S.bad = false := by simp [DiskA.bad, h.fail, h.cut]
theorem Well.called {S : DiskA} (h : Well S) (ch : Bool) : Well (S.called ch) := ⟨by simp [DiskA.called, h.fail], by simp [DiskA.called, h.cut]⟩
theorem Well.like {S S' : DiskA} (h : Well S) (h1 : S'.fail = S.fail) (h2 : S'.cut = S.cut) : Well S' := ⟨h1.trans h.fail, h2.trans h.cut⟩
theorem Well.new : Well DiskA.new := ⟨rfl, rfl⟩
theorem Well.sync {S : DiskA} (h : Well S) {V : List (Str × List UInt8)} (hV : View S V) {n : Str} {b : List UInt8} (hm : (n, b) ∈ V) : (S.syncA n).2 = true ∧ Well (S.syncA n).1 ∧ View (S.syncA n).1 V := by
 obtain ⟨f, a, hA, ha, _⟩ := hV.get hm
 have e : S.syncA n = ((S.called true).withFile f a.synced, true) := by
   unfold DiskA.syncA
   rw [if_neg (by rw [h.bad]; decide), hA]
   simp only [ha]
 rw [e]
 exact ⟨rfl, (h.called true).like rfl rfl, (hV.called true).synced (n := n) hA ha⟩
theorem Well.dir {S : DiskA} (h : Well S) {V : List (Str × List UInt8)} (hV : View S V) : S.dirA.2 = true ∧ Well S.dirA.1 ∧ View S.dirA.1 V ∧ S.dirA.1.late = [] := by
 unfold DiskA.dirA
 rw [if_neg (by rw [h.bad]; decide)]
 exact ⟨rfl, (h.called true).like rfl rfl, hV.like rfl rfl, rfl⟩
theorem Well.sure {S : DiskA} (h : Well S) {V : List (Str × List UInt8)} (hV : View S V) (ns : List Str) (hn : ∀ n ∈ ns, ∃ b, (n, b) ∈ V) : (DiskA.sureA ns S).2 = true ∧ Well (DiskA.sureA ns S).1 ∧ View (DiskA.sureA ns S).1 V ∧ (DiskA.sureA ns S).1.late = [] := by
 induction ns generalizing S with
 | nil => exact h.dir hV
 | cons n r ih =>
   obtain ⟨b, hb⟩ := hn n List.mem_cons_self
   obtain ⟨h1, h2, h3⟩ := h.sync hV hb
   unfold DiskA.sureA
   rw [if_pos h1]
   exact ih h2 h3 (fun x hx => hn x (List.mem_cons_of_mem _ hx))
theorem Well.app {S S' : DiskA} {ok : Bool} {nm : Str} {b c : List UInt8} (h : Well S) {V : List (Str × List UInt8)} (hV : View S V) (hm : (nm, c) ∈ V) (hb : b.length + vsize V ≤ 20000) (r : AppR nm b S S' ok) : ok = true ∧ Well S' ∧ View S' (vput V nm (c ++ b)) := by
 obtain ⟨f, a, hA, ha, ⟨hx, _, _⟩ | ⟨_, _, rfl, rfl⟩⟩ := r
 · rcases hx with hx | hx
   · rw [h.bad] at hx; cases hx
   · rw [hV.total] at hx; omega
 · obtain ⟨f', a', hA', ha', e⟩ := hV.get hm
   rw [hA] at hA'; cases hA'
   rw [ha] at ha'; cases ha'
   refine ⟨rfl, (h.called true).like rfl rfl, ?_⟩
   have := (hV.called true).write (n := nm) hA (a.put b)
   have e2 : (a.put b).bytes = c ++ b := by
     unfold FileA.put
     split
     · rename_i hb; rw [e, hb, List.append_nil]
     · rw [← e]
   rwa [e2] at this
theorem Well.cre {S S' : DiskA} {ok : Bool} {nm : Str} (h : Well S) (hn : nm ≠ []) {V : List (Str × List UInt8)} (hV : View S V) (r : CreR nm S S' ok) : ok = true ∧ Well S' ∧ View S' (vput V nm []) := by
 obtain ⟨hx, _, _⟩ | ⟨_, rfl, f, hf, rfl⟩ := r
 · rw [h.bad] at hx; cases hx
 · exact ⟨rfl, (h.called true).like rfl rfl, (hV.called true).create hf hn⟩
theorem without_idem {α : Type} (V : List (Str × α)) (n : Str) : without (without V n) n = without V n := by
 unfold without
 rw [List.filter_filter]
 refine List.filter_congr (fun p _ => ?_)
 rw [Bool.and_self]
theorem without_cons_same {α : Type} (V : List (Str × α)) (n : Str) (b : α) : without ((n, b) :: V) n = without V n := by
 unfold without
 rw [List.filter_cons_of_neg (by simp)]
theorem vput_vput (V : List (Str × List UInt8)) (n : Str) (b c : List UInt8) : vput (vput V n b) n c = vput V n c := by
 unfold vput
 rw [without_cons_same, without_idem]
theorem Well.lay {S S' : DiskA} {ok : Bool} {nm : Str} {b : List UInt8} (h : Well S) (hn : nm ≠ []) {V : List (Str × List UInt8)} (hV : View S V) (hb : b.length + vsize (without V nm) ≤ 20000) (r : LayR nm b S S' ok) : ok = true ∧ Well S' ∧ View S' (vput V nm b) := by
 unfold LayR at r
 split at r
 · rename_i e
   rw [e]
   exact h.cre hn hV r
 · obtain ⟨r, _⟩ | ⟨S1, r1, r2⟩ := r
   · obtain ⟨e, _⟩ := h.cre hn hV r
     cases e
   · obtain ⟨_, h1, hV1⟩ := h.cre hn hV r1
     have hs : b.length + vsize (vput V nm []) ≤ 20000 := by
       unfold vput
       rw [vsize_cons]
       show b.length + (0 + vsize (without V nm)) ≤ 20000
       omega
     obtain ⟨r, _⟩ | ⟨S2, r3, rfl, rfl⟩ := r2
     · obtain ⟨e, _⟩ := h1.app hV1 List.mem_cons_self hs r
       cases e
     · obtain ⟨_, h2, hV2⟩ := h1.app hV1 List.mem_cons_self hs r3
       refine ⟨rfl, h2, ?_⟩
       rw [vput_vput, List.nil_append] at hV2
       exact hV2
theorem Well.rename {S : DiskA} (h : Well S) {sr ds : Str} (hds : ds ≠ []) (hne : ds ≠ sr) {V : List (Str × List UInt8)} (hV : View S V) {b : List UInt8} (hm : (sr, b) ∈ V) :
   (thenDir (S.renameA sr ds)).2 = true ∧ Well (thenDir (S.renameA sr ds)).1 ∧ View (thenDir (S.renameA sr ds)).1 (vput (without V sr) ds b) ∧ (thenDir (S.renameA sr ds)).1.late = [] := by
 obtain ⟨f, a, hA, ha, e⟩ := hV.get hm
 have e1 : S.renameA sr ds = ((S.called true).named ⟨[], sr, ds, some f⟩, true) := by
   unfold DiskA.renameA
   rw [if_neg (by rw [h.bad]; decide), hA]
   simp only [hds, if_false]
 have hV1 := (hV.called true).renamed hds hne (sr := sr) hA ha
 rw [e] at hV1
 unfold thenDir
 rw [e1]
 have hW : Well ((S.called true).named ⟨[], sr, ds, some f⟩) := (h.called true).like rfl rfl
 exact hW.dir hV1
theorem Well.remove {S : DiskA} (h : Well S) {V : List (Str × List UInt8)} (hV : View S V) {n : Str} {b : List UInt8} (hm : (n, b) ∈ V) : (S.removeA n).2 = true ∧ Well (S.removeA n).1 ∧ View (S.removeA n).1 (without V n) := by
 obtain ⟨f, a, hA, ha, e⟩ := hV.get hm
 have e1 : S.removeA n = ((S.called true).named ⟨[], n, [], none⟩, true) := by
   unfold DiskA.removeA
   rw [if_neg (by rw [h.bad]; decide), hA]
 rw [e1]
 exact ⟨rfl, (h.called true).like rfl rfl, (hV.called true).removed n⟩
theorem Well.removes {S : DiskA} (h : Well S) {V : List (Str × List UInt8)} (hV : View S V) (ns : List Str) (hd : ns.Nodup) (hn : ∀ n ∈ ns, ∃ b, (n, b) ∈ V) :
   (DiskA.removesA ns S).2 = true ∧ Well (DiskA.removesA ns S).1 ∧ View (DiskA.removesA ns S).1 (V.filter (fun p => decide (p.1 ∉ ns))) := by
 induction ns generalizing S V with
 | nil =>
   refine ⟨rfl, h, ?_⟩
   rw [List.filter_eq_self.2 (fun p _ => by simp)]
   exact hV
 | cons n r ih =>
   obtain ⟨b, hb⟩ := hn n List.mem_cons_self
   obtain ⟨h1, h2, h3⟩ := h.remove hV hb
   obtain ⟨d1, d2⟩ := List.nodup_cons.1 hd
   unfold DiskA.removesA
   rw [if_pos h1]
   obtain ⟨g1, g2, g3⟩ := ih h2 h3 d2 (fun x hx => by
     obtain ⟨c, hc⟩ := hn x (List.mem_cons_of_mem _ hx)
     exact ⟨c, mem_without.2 ⟨hc, fun e => d1 (by have e2 : x = n := e; rw [← e2]; exact hx)⟩⟩)
   refine ⟨g1, g2, ?_⟩
   have e : (without V n).filter (fun p => decide (p.1 ∉ r)) = V.filter (fun p => decide (p.1 ∉ n :: r)) := by
     unfold without
     rw [List.filter_filter]
     refine List.filter_congr (fun p _ => ?_)
     rw [Bool.eq_iff_iff]
     simp only [Bool.and_eq_true, decide_eq_true_eq, List.mem_cons, not_or]
     exact And.comm
   rwa [e] at g3
theorem Well.removeAll {S : DiskA} (h : Well S) {V : List (Str × List UInt8)} (hV : View S V) (ns : List Str) (hd : ns.Nodup) (hn : ∀ n ∈ ns, ∃ b, (n, b) ∈ V) :
   (DiskA.removeAllA ns S).2 = true ∧ Well (DiskA.removeAllA ns S).1 ∧ View (DiskA.removeAllA ns S).1 (V.filter (fun p => decide (p.1 ∉ ns))) ∧ (S.late = [] → (DiskA.removeAllA ns S).1.late = []) := by
 unfold DiskA.removeAllA
 split
 · rename_i e
   refine ⟨rfl, h, ?_, fun e => e⟩
   rw [e, List.filter_eq_self.2 (fun p _ => by simp)]
   exact hV
 · obtain ⟨h1, h2, h3⟩ := h.removes hV ns hd hn
   unfold thenDir
   rw [if_pos h1]
   obtain ⟨g1, g2, g3, g4⟩ := h2.dir h3
   exact ⟨g1, g2, g3, fun _ => g4⟩
theorem View.keysNodup {S : DiskA} {V : List (Str × List UInt8)} (h : View S V) : S.keys.Nodup := by
 refine (h.keys.nodup_iff).2 ?_
 unfold List.Nodup
 rw [List.pairwise_map]
 exact h.apart
theorem Well.clear {S : DiskA} (h : Well S) {V : List (Str × List UInt8)} (hV : View S V) (ks : List Str) :
   (DiskA.clearA ks S).2 = true ∧ Well (DiskA.clearA ks S).1 ∧ View (DiskA.clearA ks S).1 (V.filter (fun p => decide (p.1 ∈ ks))) ∧ (S.late = [] → (DiskA.clearA ks S).1.late = []) := by
 unfold DiskA.clearA
 rw [if_neg (by rw [h.bad]; decide)]
 have hmem : ∀ n ∈ S.keys, ∃ b, (n, b) ∈ V := fun n hn => by
   obtain ⟨p, hp, e⟩ := List.mem_map.1 (hV.keys.mem_iff.1 hn)
   exact ⟨p.2, by rw [← e]; exact hp⟩
 have hr := Well.removeAll (h.called false) (hV.called false) (others ks S.keys) (hV.keysNodup.sublist List.filter_sublist) (fun n hn => hmem n (List.mem_filter.1 hn).1)
 have e : V.filter (fun p => decide (p.1 ∉ others ks S.keys)) = V.filter (fun p => decide (p.1 ∈ ks)) := by
   refine List.filter_congr (fun p hp => ?_)
   have hk : p.1 ∈ S.keys := hV.keys.mem_iff.2 (List.mem_map.2 ⟨p, hp, rfl⟩)
   rw [Bool.eq_iff_iff]
   simp [others, hk]
 rwa [e] at hr
end Go.Proofs.YtnipbplghijdmaaGreatDoor
namespace Go.Proofs.YtnipbplghijdmaaGreatDoor
open Go.RowKit Go.Maps Go.WideShapes
set_option linter.unusedVariables false
def RPost (E : Nat → Addr) (B : Nat) (w : World) (ρ : Nat → Role) (d : Nat) (S : DiskA) (R : DStep) (e : Ending) (w' : World) : Prop := ∃ S' ok, R S S' ok ∧ FPost E B w ρ d (S', ok) e w'
def Off (ρ : Nat → Role) (v : Value) : Prop := ∀ p n c, v = .slice (some p) n c → ρ p.block = .none
set_option maxHeartbeats 1000000 in
set_option maxRecDepth 100000 in
theorem lay_any {E : Nat → Addr} {B : Nat} {w : World} {ρ : Nat → Role} {d k : Nat} {S : DiskA} (D : Dk E B w ρ d S) (F : Fit k S) (nm : Str) (hn : nm ≠ []) (v : Value) (b : List UInt8) (hv : Bytes w v b) (hoff : Off ρ v)
   (hk : k + 1 + nm.length + b.length < 549755813888) :
   Calls Tryz.prog 114 #[.pointer (some ⟨d, 0, none⟩), strV nm, v] w (RPost E B w ρ d S (LayR nm b)) := by
 have Z : Small S := F.small (by omega)
 have hnl : nm.length < 1099511627776 := by omega
 obtain ⟨p, c, rfl, hb1, hb2, hb3, hb4⟩ := id hv
 have hlay : ∀ S' ok, LayR nm b S S' ok = (if b = [] then CreR nm else InTurn [CreR nm, AppR nm b]) S S' ok := fun _ _ => rfl
 obtain ⟨R0, hR0⟩ : ∃ R0, R0 = LayR nm b := ⟨_, rfl⟩
 rw [← hR0] at hlay ⊢
 have HL := hide hlay
 have HV := hide hv
 clear hlay hR0 hb3 hb4 hv
 go_enter Tryz.func114, Tryz.ntmps114
 go_wp2_with fail
 refine (create_any nm D.rep Z hnl).mono ?_
 rintro e w1 ⟨ρ1, g1, ⟨hB, rfl, R1⟩ | ⟨hB, hA, rfl, R1⟩ | ⟨hB, hA, rfl, f, hf, R1⟩⟩
 · have D1 := D.step g1 R1
   go_wp2_with fail
   refine (failure_bad D1.sent nm 1 (by decide)).mono ?_
   rintro e w2 ⟨v2, rfl, he, k2⟩
   obtain ⟨t, a, rfl⟩ := he.shape
   go_wp2
   go_ret
   refine ⟨S.called true, false, ?_, ρ1, g1.same k2, D1.same k2, .inr ⟨rfl, _, rfl, he⟩⟩
   rw [HL.out]
   split
   · exact .inl ⟨hB, rfl, rfl⟩
   · exact .inl ⟨.inl ⟨hB, rfl, rfl⟩, rfl⟩
 · exact absurd hA hn
 · have D1 := D.step g1 R1
   have hcre : CreR nm S (((S.called true).withFile f newFile).named ⟨nm, [], [], some f⟩) true := .inr ⟨hB, rfl, f, hf, rfl⟩
   have F1 := F.creR hn hcre
   have hat : (((S.called true).withFile f newFile).named ⟨nm, [], [], some f⟩).at nm = some f := by
     obtain ⟨V, hV⟩ := F.view
     have hU := (hV.called true).create hf hn
     obtain ⟨f', a', h1, h2, h3⟩ := hU.get (n := nm) (b := []) List.mem_cons_self
     have hne : nm.isEmpty = false := by cases nm <;> simp_all
     unfold DiskA.at
     simp only [DiskA.named, doA, hne, if_true, heldD]
     rw [atKey_put_same (k := .string nm) ?_ (by trivial)]
     · rfl
     · obtain ⟨T, ⟨⟨es, e, _⟩, _⟩, _⟩ := F.fs
       exact ⟨es, e⟩
   have hfile : (((S.called true).withFile f newFile).named ⟨nm, [], [], some f⟩).files f = some newFile := by simp [DiskA.named, DiskA.withFile]
   generalize hS1 : ((S.called true).withFile f newFile).named ⟨nm, [], [], some f⟩ = S1 at *
   have HA := hide hat
   have HF := hide hfile
   have HC := hide hcre
   clear hS1 hat hfile hcre
   go_wp2_with fail
   refine (failure_ok nm w1).mono ?_
   rintro e w2 ⟨rfl, rfl⟩
   by_cases hb0 : b = []
   · subst hb0
     go_wp2
     go_ret
     refine ⟨S1, true, ?_, ρ1, g1, D1, .inl ⟨rfl, rfl⟩⟩
     rw [HL.out]
     exact HC.out
   · have hpos : 0 < b.length := List.length_pos_iff.2 hb0
     have hneB : ((b.length : Int) == 0) = false := by simp; omega
     obtain ⟨ad, rfl⟩ : ∃ ad, p = some ad := by
       cases p with
       | some ad => exact ⟨ad, rfl⟩
       | none =>
         obtain ⟨p', c', e, h1, h2, h3, h4⟩ := HV.out
         cases e
         have := h3 rfl
         omega
     have hv1 : Bytes w2 (.slice (some ad) b.length c) b := HV.out.keep g1.keeps (fun p n c' e h => by cases e; exact h (hoff _ _ _ rfl))
     have hr1 : ρ1 ad.block = .none := (g1.role _ (HV.out.lt hb0)).trans (hoff _ _ _ rfl)
     have harg : Arg w2 ρ1 (.slice (some ad) b.length c) b := by
       obtain ⟨p', c', e, h1, h2, h3, h4⟩ := hv1
       cases e
       exact .inr ⟨ad, c, rfl, h1, hr1, fun j u hu => by
         rw [List.getElem?_map] at hu
         obtain ⟨x, hx, rfl⟩ := Option.map_eq_some_iff.1 hu
         exact (h4 ad rfl).2 j x hx⟩
     have Z1 : Small S1 := F1.small (by omega)
     have ht1 : total S1.files S1.names < 1099511627776 := by have := F1.total; omega
     have HT := hide ht1
     clear ht1 hv1
     go_wp2_with fail
     refine (append_some nm b ad c D1.rep Z1 hnl HA.out HF.out hpos (by omega) harg (by omega) hb2 HT.out).mono ?_
     rintro e w3 ⟨ρ3, g3, ⟨hx, rfl, R3⟩ | ⟨hx, hy, rfl, R3⟩⟩
     · have D3 := D1.step g3 R3
       go_wp2_with fail
       refine (failure_bad D3.sent nm 1 (by decide)).mono ?_
       rintro e w4 ⟨v4, rfl, he, k4⟩
       go_wp2
       go_ret
       refine ⟨_, false, ?_, ρ3, (g1.trans g3).same k4, D3.same k4, .inr ⟨rfl, v4, rfl, he⟩⟩
       rw [HL.out, if_neg hb0]
       exact .inr ⟨S1, HC.out, .inl ⟨⟨f, newFile, HA.out, HF.out, .inl ⟨hx, rfl, rfl⟩⟩, rfl⟩⟩
     · have D3 := D1.step g3 R3
       go_wp2_with fail
       refine (failure_ok nm w3).mono ?_
       rintro e w4 ⟨rfl, rfl⟩
       go_wp2
       go_ret
       refine ⟨_, true, ?_, ρ3, g1.trans g3, D3, .inl ⟨rfl, rfl⟩⟩
       rw [HL.out, if_neg hb0]
       exact .inr ⟨S1, HC.out, .inr ⟨_, ⟨f, newFile, HA.out, HF.out, .inr ⟨hx, hy, rfl, rfl⟩⟩, rfl, rfl⟩⟩
end Go.Proofs.YtnipbplghijdmaaGreatDoor
