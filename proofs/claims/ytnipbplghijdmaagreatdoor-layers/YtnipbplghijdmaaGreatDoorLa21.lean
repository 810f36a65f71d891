/-
  La: Files4 StoreA View Vol Steps Lay.
-/
import Derived.Maps.AppendAt
import Derived.Deep.DeepMust
import Derived.Test.YtnipbplghijdmaaGreatDoorLa20
import Derived.Test.YtnipbplghijdmaaGreatDoorLa08
import Derived.Test.YtnipbplghijdmaaGreatDoorLa15
import Derived.Test.YtnipbplghijdmaaGreatDoorLa17
import Derived.Test.YtnipbplghijdmaaGreatDoorLa07
import Derived.Test.YtnipbplghijdmaaGreatDoorLa01
import Derived.Test.YtnipbplghijdmaaGreatDoorLa16
namespace Go.Proofs.YtnipbplghijdmaaGreatDoor
open Go.RowKit Go.Maps Go.WideShapes
set_option linter.unusedVariables false
theorem Eo {w : World} {base : Nat} {v : Value} {ks : List Str} (x : Str) (hl : ks.length < 1099511627776) (hv : w.ownsRow base 9 1 v ks.length (ks.map encStr)) :
   Calls Tryz.prog 214 #[v, jc x] w fun e w' => e = .returned (.bool (decide (x ∈ ks))) ∧ w' = w := by
 rcases hv.2 with ⟨rfl, h0⟩ | ⟨g, cap, cur, rfl, _, hg, h1, h2, h3, h4⟩
 · have : ks = [] := List.eq_nil_of_length_eq_zero h0
   subst this
   refine (Tryz.slices_Contains_string_empty none 0 ⟨x.toArray⟩ w).mono ?_
   rintro e w' ⟨rfl, rfl⟩
   exact ⟨by simp, rfl⟩
 · refine (Tryz.slices_Contains_string g 0 ks.length cap (ks.map fun s => ⟨s.toArray⟩) ⟨x.toArray⟩ w (by simp) (by omega) ?_).mono ?_
   · intro j hj
     have hj2 : j < ks.length := by simpa using hj
     have := hv.cells rfl j (encStr ks[j]) (by rw [List.getElem?_map, List.getElem?_eq_getElem hj2]; rfl)
     rw [add_zero] at this
     rw [Nat.zero_add, this]
     unfold encStr
     simp [List.getD, List.getElem?_eq_getElem hj2]
   · rintro e w' ⟨rfl, rfl⟩
     refine ⟨?_, rfl⟩
     congr 2
     rw [Bool.eq_iff_iff, Lib.containsS_iff, List.take_of_length_le (by simp), decide_eq_true_eq, List.mem_map]
     constructor
     · rintro ⟨s, hs, e⟩
       have e2 : s.toArray = x.toArray := congrArg ByteArray.data e
       have e3 : s = x := by simpa using e2
       exact e3 ▸ hs
     · intro h
       exact ⟨x, h, rfl⟩
theorem jec {w : World} {ρ : Nat → jw} {d : Nat} {S : je} (R : Rep w ρ d S) (hB : S.bad = true) :
   Calls Tryz.prog 213 #[.pointer (some ⟨d, 0, none⟩)] w fun e w' => e = .returned (.tuple #[.slice none 0 0, .int .i64 1]) ∧ yf w ρ w' ρ ∧ Rep w' ρ d (S.called false) := by
 go_enter Tryz.func213, Tryz.ntmps213
 go_wp2_with (go_at_call 102; refine (z8 false R).mono ?_; rintro e w1 ⟨rfl, R1, G1⟩)
 go_ret2
 exact ⟨rfl, G1, R1⟩
def others (ks ns : List Str) : List Str := ns.filter (fun x => !decide (x ∈ ks))
theorem Ui {ks ns : List Str} {k : Nat} {x : Str} (hk : k < ns.length) (hx : ns[k] = x) : others ks (ns.take (k + 1)) = if x ∈ ks then others ks (ns.take k) else others ks (ns.take k) ++ [x] := by
 unfold others
 rw [List.take_add_one, List.getElem?_eq_getElem hk, hx, Option.toList_some, List.filter_append]
 by_cases h : x ∈ ks <;> simp [h]
theorem M8 (ks ns : List Str) : (others ks ns).length ≤ ns.length := List.length_filter_le _ _
def je.Yl (ks : List Str) (S : je) : je × Bool := if S.bad = true then (S.called false, false) else je.zh (others ks S.keys) (S.called false)
set_option maxHeartbeats 1000000 in
set_option maxRecDepth 100000 in
theorem Fe {E : Nat → Addr} {B : Nat} {w : World} {ρ : Nat → jw} {d : Nat} {S : je} (D : Dk E B w ρ d S) (Z : Small S) (v : Value) (ks : List Str) (base : Nat) (hv : w.ownsRow base 9 1 v ks.length (ks.map encStr)) (hρ : ∀ g, v.ownBlock = some g → ρ g = .none)
   (hl : ks.length < 1099511627776) (hkl : ∀ n ∈ S.keys, n.length < 1099511627776) (hz : Maps.size S.safe + S.late.length + S.keys.length < 1099511627776) :
   Calls Tryz.prog 177 #[.pointer (some ⟨d, 0, none⟩), v] w (gq E B w ρ d (je.Yl ks S)) := by
 obtain ⟨p, c, rfl⟩ := jh hv
 obtain ⟨i0, hi, hz0, hz1, hz2⟩ := info_parts Tryz.Ei
 have hB : S.bad = true ∨ S.bad = false := by cases S.bad <;> simp
 rcases hB with hB | hB
 · have hres : je.Yl ks S = (S.called false, false) := by unfold je.Yl; rw [if_pos hB]
   have HRES := hide hres
   clear hres
   go_enter Tryz.func177, Tryz.ntmps177
   go_wp2_with fail
   refine (jec D.rep hB).mono ?_
   rintro e w1 ⟨rfl, g1, R1⟩
   have D1 := D.step g1 R1
   go_wp2_with fail
   refine (J8 D1.sent [110, 97, 109, 101, 115] 1 (by decide)).mono ?_
   rintro e w2 ⟨v2, rfl, he, k2⟩
   obtain ⟨t1, a1, rfl⟩ := he.shape
   go_wp2
   go_ret
   rw [HRES.out]
   exact ⟨ρ, g1.same k2, D1.same k2, .inr ⟨rfl, _, rfl, he⟩⟩
 · have hres : je.Yl ks S = je.zh (others ks S.keys) (S.called false) := by unfold je.Yl; rw [if_neg (by rw [hB]; decide)]
   have HRES := hide hres
   clear hres
   go_enter Tryz.func177, Tryz.ntmps177
   go_wp2_with fail
   refine (jeb D.rep Z hB).mono ?_
   rintro e w1 ⟨g1, R1, pk, ck, rfl, hkeys⟩
   have D1 := D.step g1 R1
   have hv1 := g1.keeps.row hv (fun g hg2 h => h (hρ g hg2))
   generalize hns : S.keys = ns at hkeys hkl hz HRES
   have HNS := hide hns
   clear hns
   go_wp2_with fail
   refine (Xc [110, 97, 109, 101, 115] w1).mono ?_
   rintro e w2 ⟨rfl, rfl⟩
   obtain ⟨N1, hN1⟩ : ∃ N1, N1 = w2.heap.size := ⟨_, rfl⟩
   have HN1 := hide hN1
   clear hN1
   go_wp2_with fail
   go_loopw [8, 23] (fun v8 i wr => ∃ (k : Nat) (ss : List Str) (p8 : Option Addr) (c8 : Nat), k ≤ ns.length ∧ i = .int .i64 k ∧ v8 = .slice p8 ss.length c8 ∧ ss = others ks (ns.take k) ∧ wr.ownsRow w2.heap.size 9 1 (.slice p8 ss.length c8) ss.length (ss.map encStr) ∧ ja w2 wr (fun _ => False))
     (fun _ i _ => ns.length - (intOf i).toNat)
   case atStart => exact ⟨0, [], none, 0, Nat.zero_le _, rfl, rfl, rfl, World.ownsRow_nil _ _ _ _, ja.refl _ _⟩
   case round =>
     obtain ⟨k, ss, p8, c8, hk, rfl, rfl, hss, hrow, hkw⟩ := hrel
     have hsl := M8 ks (ns.take k)
     rw [← hss, List.length_take] at hsl
     have HSS := hide hss
     clear hss
     rcases Nat.lt_or_ge k ns.length with hlt | hge
     · have hkr := hkw.row hkeys (fun _ _ h => h)
       have hvr := hkw.row hv1 (fun _ _ h => h)
       have hp : ∃ g, pk = some ⟨g, 0, none⟩ := by
         rcases hkr.2 with ⟨_, h0⟩ | ⟨g, cap, cur, e, _⟩
         · omega
         · cases e; exact ⟨g, rfl⟩
       obtain ⟨g, rfl⟩ := hp
       have hcell := hkr.cells rfl k (encStr ns[k]) (by rw [List.getElem?_map, List.getElem?_eq_getElem hlt]; rfl)
       rw [add_zero] at hcell
       generalize hx : ns[k] = x at hcell
       have hstep := Ui (ks := ks) hlt hx
       rw [← HSS.out] at hstep
       have HST := hide hstep
       clear hstep hx
       unfold encStr at hcell
       have hsw : w2.heap.size ≤ wr.heap.size := hkw.size
       by_cases hxm : x ∈ ks
       · have hd : decide (x ∈ ks) = true := by simp [hxm]
         have HST2 : Hid (others ks (ns.take (k + 1)) = ss) := by unfold Hid; rw [HST.out, if_pos hxm]
         clear hxm HST
         go_wp2_with fail
         refine (Eo x hl hvr).mono ?_
         rintro e w3 ⟨rfl, rfl⟩
         rw [hd]
         go_wp2
         exact ⟨⟨k + 1, ss, p8, c8, hlt, by simp, rfl, HST2.out.symm, hrow, hkw⟩, by simp [intOf]; omega⟩
       · have hd : decide (x ∈ ks) = false := by simp [hxm]
         have HST2 : Hid (others ks (ns.take (k + 1)) = ss ++ [x]) := by unfold Hid; rw [HST.out, if_neg hxm]
         clear hxm HST
         have h63 : Hid (ss.length + 1 ≤ maxLen) := by unfold Hid maxLen; omega
         have hbs : Hid ((ss.length + 1) * 16 ≤ 140737488355328) := by unfold Hid; omega
         have hbb : ∀ o, Hid (w2.heap.size ≤ (wr.alloc o).heap.size) := by intro o; unfold Hid; simp; omega
         go_wp2_with fail
         refine (Eo x hl hvr).mono ?_
         rintro e w3 ⟨rfl, rfl⟩
         rw [hd]
         have hso := jbb x
         have HSO := hide hso
         clear hso
         go_wp2_with (first
           | (at_builtin; go_must (refine jm _ rfl (.tmp 31) (.tmp 33) 40 rfl w2.heap.size 9 i0 (.string ⟨#[]⟩) 1 16 Tryz.underlying40 hi hz0 hz1 hz2 rfl (Nat.zero_lt_succ 0) (.slice p8 ss.length c8) ss.length (ss.map encStr) rfl (hrow.alloc _) ⟨w3.heap.size, 0, none⟩ 1 1 [encStr x] rfl rfl (Qc (jd w3 _) rfl) HSO.out h63.out hbs.out (hbb _).out ?_); intro p3 cp3 w4 hown3 hg3 hloc3)
           | go_in)
         have hk3 : ja w2 w4 (fun _ => False) := (hkw.more _).grow hg3 (fun k e hk => (by have := (hrow.lt k e).1; omega))
         have hlen3 : (ss ++ [x]).length = ss.length + 1 := by simp
         exact ⟨⟨k + 1, ss ++ [x], p3, cp3, hlt, by simp, by rw [hlen3], HST2.out.symm, by rw [hlen3]; simpa using hown3, hk3⟩, by simp [intOf]; omega⟩
     · have ek : k = ns.length := by omega
       have hss2 : ss = others ks ns := by rw [HSS.out, ek, List.take_length]
       rw [← hss2] at HRES
       have hmem : ∀ n ∈ ss, n.length < 1099511627776 := fun n hn => hkl n (by rw [hss2] at hn; exact (List.mem_filter.1 hn).1)
       have D2 := D1.same hkw
       have hρ2 : ∀ g, (Value.slice p8 ss.length c8).ownBlock = some g → ρ g = .none := fun g hg2 => by
         rcases Classical.em (ρ g = .none) with h | h
         · exact h
         · have h5 := R1.lt g h
           have h6 := (hrow.lt g hg2).1
           omega
       have hz3 : Maps.size (S.called false).safe + (S.called false).late.length + ss.length < 1099511627776 := by show Maps.size S.safe + S.late.length + ss.length < _; omega
       have HZ3 := hide hz3
       clear hz3 hss2 HSS
       go_wp2_with fail
       refine (u6 D2 (Z.called false) _ ss _ hrow hρ2 hmem (by omega) HZ3.out).mono ?_
       intro e w3 hp
       have hq := hp.before (g1.same hkw)
       rw [← HRES.out] at hq
       obtain ⟨ρ3, g3, D3, ⟨hok, rfl⟩ | ⟨hok, v1, rfl, he⟩⟩ := hp
       all_goals
         go_wp2
         go_ret
         exact hq
abbrev yl (dv nx la lo ba ru last mv : Value) (deg cl : Bool) : Array Value := #[dv, nx, la, lo, ba, ru, last, mv, .bool deg, .bool cl]
def l9 (deg cl : Bool) : Int := if cl = true then 3 else if deg = true then 4 else 0
set_option maxRecDepth 100000 in
theorem Y5 {w : World} {b : Nat} {t : TypeId} {dv nx la lo ba ru last mv : Value} {deg cl : Bool} (hb : w.heap[b]? = some (.cells (yl dv nx la lo ba ru last mv deg cl) t (0, 0))) :
   Calls Tryz.prog 60 #[.pointer (some ⟨b, 0, none⟩)] w fun e w' => e = .returned (.int .i64 (l9 deg cl)) ∧ w' = w := by
 have d8 := cell_of_heap (o := 8) hb
 have d9 := cell_of_heap (o := 9) hb
 simp at d8 d9
 clear hb
 cases cl <;> cases deg
 all_goals
   go_enter Tryz.func60, Tryz.ntmps60
   go_wp2
   go_ret
   exact ⟨rfl, rfl⟩
set_option maxRecDepth 100000 in
theorem Gs {w : World} {b : Nat} {t : TypeId} {dv nx la lo ba ru last mv : Value} {deg cl : Bool} (hb : w.heap[b]? = some (.cells (yl dv nx la lo ba ru last mv deg cl) t (0, 0))) :
   Calls Tryz.prog 65 #[.pointer (some ⟨b, 0, none⟩)] w fun e w' => e = .returned (.int .i64 1) ∧ w'.heap[b]? = some (.cells (yl dv nx la lo ba ru last mv true cl) t (0, 0)) ∧ ja w w' (fun i => i = b) := by
 have d8 := cell_of_heap (o := 8) hb
 have f8 := frozen_of_heap (o := 8) hb
 simp at d8
 have HB := hide hb
 clear hb
 go_enter Tryz.func65, Tryz.ntmps65
 go_wp2
 go_ret
 exact ⟨rfl, (jb HB.out _).trans rfl, ja.setCell w _ _⟩
end Go.Proofs.YtnipbplghijdmaaGreatDoor
namespace Go.Proofs.YtnipbplghijdmaaGreatDoor
open Go.RowKit Go.Maps Go.WideShapes Go.Sort
set_option linter.unusedVariables false
abbrev Tok := Str × Nat
def jfq (p : Tok) : Lit × DataW Nat := (.string p.1, .held p.2)
structure di (D : DataW Nat) (T : List Tok) : Prop where
 es : ∃ es, D = .map es ∧ es.Perm (T.map jfq)
 apart : T.Pairwise (fun p q => p.1 ≠ q.1)
theorem di.nil : di (.map []) [] := ⟨⟨[], rfl, List.Perm.nil⟩, List.Pairwise.nil⟩
def without {α : Type} (T : List (Str × α)) (n : Str) : List (Str × α) := T.filter (fun p => decide (p.1 ≠ n))
theorem xu {α : Type} {T : List (Str × α)} {n : Str} {p : Str × α} : p ∈ without T n ↔ p ∈ T ∧ p.1 ≠ n := by simp [without]
theorem Yu {α : Type} {T : List (Str × α)} (h : T.Pairwise (fun p q => p.1 ≠ q.1)) (n : Str) : (without T n).Pairwise (fun p q => p.1 ≠ q.1) := h.sublist List.filter_sublist
theorem Gc (n m : Str) : (Lit.string n).sameKey (.string m) = decide (n = m) := by
 by_cases h : n = m
 · subst h
   rw [WideAt.sameKey_self (by trivial)]
   simp
 · rw [sameKey_ne (fun e => h (by injection e))]
   simp [h]
theorem Ls (T : List Tok) (n : Str) : (T.map jfq).filter (fun p => !p.1.sameKey (.string n)) = (without T n).map jfq := by
 induction T with
 | nil => rfl
 | cons x r ih =>
   unfold without at *
   rw [List.map_cons, List.filter_cons, List.filter_cons]
   show (if !(Lit.string x.1).sameKey (.string n) then _ else _) = _
   rw [Gc]
   by_cases h : x.1 = n
   · simp [h, ih]
   · simp [h, ih]
theorem insert_perm (x : Lit × DataW Nat) (l : List (Lit × DataW Nat)) : (DataW.insert x l).Perm (x :: l) := by
 induction l with
 | nil => exact List.Perm.refl _
 | cons y r ih =>
   unfold DataW.insert
   split
   · exact List.Perm.refl _
   · exact (ih.cons y).trans (List.Perm.swap x y r)
theorem di.del {D : DataW Nat} {T : List Tok} (h : di D T) (n : Str) : di (D.del (.string n)) (without T n) := by
 obtain ⟨⟨es, rfl, q⟩, a⟩ := h
 exact ⟨⟨_, rfl, by rw [← Ls]; exact q.filter _⟩, Yu a n⟩
theorem di.put {D : DataW Nat} {T : List Tok} (h : di D T) (n : Str) (f : Nat) : di (D.put (.string n) (.held f)) ((n, f) :: without T n) := by
 obtain ⟨⟨es, rfl, q⟩, a⟩ := h
 refine ⟨⟨_, rfl, (insert_perm _ _).trans ?_⟩, List.pairwise_cons.2 ⟨fun p hp => Ne.symm (xu.1 hp).2, Yu a n⟩⟩
 rw [List.map_cons, ← Ls]
 exact (q.filter _).cons _
theorem di.at {D : DataW Nat} {T : List Tok} (h : di D T) {n : Str} {f : Nat} (hm : (n, f) ∈ T) (z : DataW Nat) : D.atKey (.string n) z = .held f := by
 obtain ⟨⟨es, rfl, q⟩, a⟩ := h
 have h1 : jfq (n, f) ∈ es := q.mem_iff.2 (List.mem_map.2 ⟨_, hm, rfl⟩)
 have h2 : es.Pairwise (fun p q => p.1 ≠ q.1) := by
   refine (q.pairwise_iff (fun e => Ne.symm e)).2 ?_
   rw [List.pairwise_map]
   exact a.imp (fun h e => h (by injection e))
 exact WideAt.atKey_mem (k := .string n) z (by trivial) h2 h1
theorem di.none {D : DataW Nat} {T : List Tok} (h : di D T) {n : Str} (hm : ∀ f, (n, f) ∉ T) (z : DataW Nat) : D.atKey (.string n) z = z := by
 obtain ⟨⟨es, rfl, q⟩, a⟩ := h
 have : es.find? (fun p => p.1.sameKey (.string n)) = Option.none := by
   refine List.find?_eq_none.2 (fun p hp => ?_)
   obtain ⟨t, ht, rfl⟩ := List.mem_map.1 (q.mem_iff.1 hp)
   show ¬ (Lit.string t.1).sameKey (.string n) = true
   rw [Gc]
   intro e
   have e2 : t.1 = n := by simpa using e
   exact hm t.2 (by rw [← e2]; exact ht)
 simp only [DataW.atKey, this]
theorem Dp {l m : List Nat} (p : l.Perm m) : l.sum = m.sum := by
 induction p with
 | nil => rfl
 | cons x _ ih => simp [ih]
 | swap x y l => simp; omega
 | trans _ _ i j => exact i.trans j
theorem di.total {D : DataW Nat} {T : List Tok} (h : di D T) (fs : Nat → Option yw) : total fs D = (T.map (fun p => ((fs p.2).elim 0 (fun a => a.bytes.length)))).sum := by
 obtain ⟨⟨es, rfl, q⟩, a⟩ := h
 unfold Go.Proofs.YtnipbplghijdmaaGreatDoor.total
 rw [Dp ((show (entriesOf (.map es)) = es from rfl) ▸ (q.map _))]
 rw [List.map_map]
 rfl
theorem di.keys {D : DataW Nat} {T : List Tok} (h : di D T) : (strKeys D).Perm (T.map Prod.fst) := by
 obtain ⟨⟨es, rfl, q⟩, a⟩ := h
 unfold strKeys
 refine (q.map _).trans ?_
 rw [List.map_map]
 exact List.Perm.of_eq (List.map_congr_left (fun p _ => rfl))
theorem di.size {D : DataW Nat} {T : List Tok} (h : di D T) : Maps.size D = T.length := by
 obtain ⟨⟨es, rfl, q⟩, a⟩ := h
 show es.length = _
 rw [q.length_eq, List.length_map]
structure Fs (S : je) (T : List Tok) : Prop where
 toks : di S.names T
 files : ∀ p ∈ T, ∃ a, S.files p.2 = some a
 apart : T.Pairwise (fun p q => p.2 ≠ q.2)
def Xw (fs : Nat → Option yw) (f : Nat) : List UInt8 := (fs f).elim [] yw.bytes
def Q8 (fs : Nat → Option yw) (T : List Tok) : List (Str × List UInt8) := T.map (fun p => (p.1, Xw fs p.2))
def View (S : je) (V : List (Str × List UInt8)) : Prop := ∃ T, Fs S T ∧ V.Perm (Q8 S.files T)
def yu (V : List (Str × List UInt8)) (n : Str) (b : List UInt8) : List (Str × List UInt8) := (n, b) :: without V n
def qm (V : List (Str × List UInt8)) : Nat := (V.map (fun p => p.2.length)).sum
theorem Ij {V U : List (Str × List UInt8)} (p : V.Perm U) : qm V = qm U := Dp (p.map _)
theorem yz (p : Str × List UInt8) (V : List (Str × List UInt8)) : qm (p :: V) = p.2.length + qm V := by simp [qm]
theorem yx (V : List (Str × List UInt8)) (n : Str) : qm (without V n) ≤ qm V := by
 induction V with
 | nil => simp [without, qm]
 | cons x r ih =>
   unfold without at *
   rw [List.filter_cons]
   split
   · rw [yz, yz]; omega
   · rw [yz]; omega
theorem Bn {V : List (Str × List UInt8)} (h : V.Pairwise (fun p q => p.1 ≠ q.1)) {n : Str} {b : List UInt8} (hm : (n, b) ∈ V) : qm (without V n) + b.length = qm V := by
 induction V with
 | nil => cases hm
 | cons x r ih =>
   obtain ⟨h1, h2⟩ := List.pairwise_cons.1 h
   rcases List.mem_cons.1 hm with rfl | hm
   · have e : without ((n, b) :: r) n = r := by
       unfold without
       rw [List.filter_cons_of_neg (by simp)]
       exact List.filter_eq_self.2 (fun p hp => by simpa using fun e => h1 p hp e.symm)
     rw [e, yz]
     show qm r + b.length = b.length + qm r
     omega
   · have e : without (x :: r) n = x :: without r n := by
       unfold without
       rw [List.filter_cons_of_pos (by simpa using h1 _ hm)]
     rw [e, yz, yz, ← ih h2 hm]
     omega
theorem View.perm {S : je} {V U : List (Str × List UInt8)} (h : View S V) (p : U.Perm V) : View S U := by
 obtain ⟨T, F, q⟩ := h
 exact ⟨T, F, p.trans q⟩
theorem Yb (fs : Nat → Option yw) (T : List Tok) (n : Str) : without (Q8 fs T) n = Q8 fs (without T n) := by
 unfold Q8 without
 rw [List.filter_map]
 rfl
theorem View.apart {S : je} {V : List (Str × List UInt8)} (h : View S V) : V.Pairwise (fun p q => p.1 ≠ q.1) := by
 obtain ⟨T, F, q⟩ := h
 refine (q.pairwise_iff (fun e => Ne.symm e)).2 ?_
 unfold Q8
 rw [List.pairwise_map]
 exact F.toks.apart
theorem Fs.at {S : je} {T : List Tok} (h : Fs S T) {n : Str} {f : Nat} : S.at n = some f ↔ (n, f) ∈ T := by
 unfold je.at
 constructor
 · intro e
   rcases Classical.em (∃ g, (n, g) ∈ T) with ⟨g, hg⟩ | hn
   · rw [h.toks.at hg] at e
     cases e
     exact hg
   · rw [h.toks.none (fun f hf => hn ⟨f, hf⟩)] at e
     cases e
 · intro e
   rw [h.toks.at e]
   rfl
theorem View.get {S : je} {V : List (Str × List UInt8)} (h : View S V) {n : Str} {b : List UInt8} (hm : (n, b) ∈ V) : ∃ f a, S.at n = some f ∧ S.files f = some a ∧ a.bytes = b := by
 obtain ⟨T, F, q⟩ := h
 obtain ⟨t, ht, e⟩ := List.mem_map.1 (q.mem_iff.1 hm)
 obtain ⟨a, ha⟩ := F.files t ht
 injection e with e1 e2
 refine ⟨t.2, a, ?_, ha, ?_⟩
 · rw [F.at, ← e1]; exact ht
 · rw [← e2]; unfold Xw; rw [ha]; rfl
theorem View.of {S : je} {V : List (Str × List UInt8)} (h : View S V) {n : Str} {f : Nat} {a : yw} (hA : S.at n = some f) (ha : S.files f = some a) : (n, a.bytes) ∈ V := by
 obtain ⟨T, F, q⟩ := h
 refine q.mem_iff.2 (List.mem_map.2 ⟨(n, f), F.at.1 hA, ?_⟩)
 unfold Xw
 rw [ha]
 rfl
theorem View.one {S : je} {V : List (Str × List UInt8)} (h : View S V) {n : Str} {b c : List UInt8} (hb : (n, b) ∈ V) (hc : (n, c) ∈ V) : b = c := by
 obtain ⟨f, a, h1, h2, rfl⟩ := h.get hb
 obtain ⟨g, d, h3, h4, rfl⟩ := h.get hc
 rw [h1] at h3; cases h3
 rw [h2] at h4; cases h4
 rfl
theorem View.total {S : je} {V : List (Str × List UInt8)} (h : View S V) : total S.files S.names = qm V := by
 obtain ⟨T, F, q⟩ := h
 rw [F.toks.total, Ij q]
 unfold qm Q8
 rw [List.map_map]
 congr 1
 refine List.map_congr_left (fun p _ => ?_)
 simp only [Function.comp, Xw]
 cases S.files p.2 <;> rfl
theorem View.keys {S : je} {V : List (Str × List UInt8)} (h : View S V) : S.keys.Perm (V.map Prod.fst) := by
 obtain ⟨T, F, q⟩ := h
 unfold je.keys
 refine (List.mergeSort_perm _ _).trans (F.toks.keys.trans ?_)
 have := q.map Prod.fst
 unfold Q8 at this
 rw [List.map_map] at this
 exact this.symm
theorem View.count {S : je} {V : List (Str × List UInt8)} (h : View S V) : Maps.size S.names = V.length := by
 obtain ⟨T, F, q⟩ := h
 rw [F.toks.size, q.length_eq]
 simp [Q8]
theorem View.like {S S' : je} {V : List (Str × List UInt8)} (h : View S V) (h1 : S'.names = S.names) (h2 : S'.files = S.files) : View S' V := by
 obtain ⟨T, F, q⟩ := h
 exact ⟨T, ⟨h1 ▸ F.toks, by rw [h2]; exact F.files, F.apart⟩, by rw [h2]; exact q⟩
theorem View.called {S : je} {V : List (Str × List UInt8)} (h : View S V) (ch : Bool) : View (S.called ch) V := h.like rfl rfl
theorem View.write {S : je} {V : List (Str × List UInt8)} (h : View S V) {n : Str} {f : Nat} (hA : S.at n = some f) (a' : yw) : View (S.withFile f a') (yu V n a'.bytes) := by
 obtain ⟨T, F, q⟩ := h
 have hm := F.at.1 hA
 refine ⟨T, ⟨F.toks, fun p hp => ?_, F.apart⟩, ?_⟩
 · by_cases e : p.2 = f
   · exact ⟨a', by simp [je.withFile, e]⟩
   · obtain ⟨a, ha⟩ := F.files p hp
     exact ⟨a, by simp [je.withFile, e, ha]⟩
 · have hT : T.Perm ((n, f) :: without T n) := by
     have H : ∀ {T : List Tok}, T.Pairwise (fun p q => p.1 ≠ q.1) → (n, f) ∈ T → T.Perm ((n, f) :: without T n) := by
       intro T
       induction T with
       | nil => intro _ h; cases h
       | cons x r ih =>
         intro hp hm
         obtain ⟨h1, h2⟩ := List.pairwise_cons.1 hp
         rcases List.mem_cons.1 hm with rfl | hm
         · have e : without ((n, f) :: r) n = r := by
             unfold without
             rw [List.filter_cons_of_neg (by simp)]
             exact List.filter_eq_self.2 (fun p hp => by simpa using fun e => h1 p hp e.symm)
           rw [e]
         · have e : without (x :: r) n = x :: without r n := by
             unfold without
             rw [List.filter_cons_of_pos (by simpa using h1 _ hm)]
           rw [e]
           exact ((ih h2 hm).cons x).trans (List.Perm.swap _ _ _)
     exact H F.toks.apart hm
   have q2 : (without V n).Perm (Q8 S.files (without T n)) := by rw [← Yb]; exact q.filter _
   have e : Q8 (S.withFile f a').files ((n, f) :: without T n) = (n, a'.bytes) :: Q8 S.files (without T n) := by
     unfold Q8
     rw [List.map_cons]
     congr 1
     · simp [Xw, je.withFile]
     · refine List.map_congr_left (fun p hp => ?_)
       obtain ⟨hp1, hp2⟩ := xu.1 hp
       have hne : p.2 ≠ f := by
         intro e
         have H : ∀ {T : List Tok}, T.Pairwise (fun p q => p.2 ≠ q.2) → ∀ a ∈ T, ∀ b ∈ T, a.2 = b.2 → a = b := by
           intro T
           induction T with
           | nil => intro _ a ha; cases ha
           | cons x r ih =>
             intro hp a ha b hb e
             obtain ⟨h1, h2⟩ := List.pairwise_cons.1 hp
             rcases List.mem_cons.1 ha with ea | ha' <;> rcases List.mem_cons.1 hb with eb | hb'
             · exact ea.trans eb.symm
             · exact (h1 b hb' (ea ▸ e)).elim
             · exact (h1 a ha' (eb ▸ e.symm)).elim
             · exact ih h2 a ha' b hb' e
         have := H F.apart p hp1 (n, f) hm e
         exact hp2 (by rw [this])
       simp [Xw, je.withFile, hne]
   exact (q2.cons _).trans ((List.Perm.of_eq e.symm).trans ((hT.map _).symm))
theorem jb7 {V : List (Str × List UInt8)} (h : V.Pairwise (fun p q => p.1 ≠ q.1)) {n : Str} {b : List UInt8} (hm : (n, b) ∈ V) : V.Perm (yu V n b) := by
 unfold yu
 induction V with
 | nil => cases hm
 | cons x r ih =>
   obtain ⟨h1, h2⟩ := List.pairwise_cons.1 h
   rcases List.mem_cons.1 hm with rfl | hm
   · have e : without ((n, b) :: r) n = r := by
       unfold without
       rw [List.filter_cons_of_neg (by simp)]
       exact List.filter_eq_self.2 (fun p hp => by simpa using fun e => h1 p hp e.symm)
     rw [e]
   · have e : without (x :: r) n = x :: without r n := by
       unfold without
       rw [List.filter_cons_of_pos (by simpa using h1 _ hm)]
     rw [e]
     exact ((ih h2 hm).cons x).trans (List.Perm.swap _ _ _)
theorem View.synced {S : je} {V : List (Str × List UInt8)} (h : View S V) {n : Str} {f : Nat} {a : yw} (hA : S.at n = some f) (ha : S.files f = some a) : View (S.withFile f a.synced) V :=
 by
 have h1 : (n, a.synced.bytes) ∈ V := by have := h.of hA ha; exact this
 exact (h.write hA a.synced).perm (jb7 h.apart h1)
theorem View.create {S : je} {V : List (Str × List UInt8)} (h : View S V) {f : Nat} (hf : S.files f = Option.none) {n : Str} (hn : n ≠ []) : View ((S.withFile f Jt).named ⟨n, [], [], some f⟩) (yu V n []) := by
 obtain ⟨T, F, q⟩ := h
 have hd : (((S.withFile f Jt).named ⟨n, [], [], some f⟩)).names = S.names.put (.string n) (.held f) := by
   have hn2 : n.isEmpty = false := by cases n <;> simp_all
   simp [je.named, doA, hn2, Aq, je.withFile]
 have hnew : ∀ p ∈ without T n, p.2 ≠ f := fun p hp e => by
   obtain ⟨a, ha⟩ := F.files p (xu.1 hp).1
   rw [e, hf] at ha; cases ha
 refine ⟨(n, f) :: without T n, ⟨by rw [hd]; exact F.toks.put n f, fun p hp => ?_, ?_⟩, ?_⟩
 · rcases List.mem_cons.1 hp with rfl | hp
   · exact ⟨Jt, by simp [je.named, je.withFile]⟩
   · obtain ⟨a, ha⟩ := F.files p (xu.1 hp).1
     exact ⟨a, by simp [je.named, je.withFile, hnew p hp, ha]⟩
 · exact List.pairwise_cons.2 ⟨fun p hp => Ne.symm (hnew p hp), F.apart.sublist List.filter_sublist⟩
 · have q2 : (without V n).Perm (Q8 S.files (without T n)) := by rw [← Yb]; exact q.filter _
   refine (q2.cons (n, [])).trans (List.Perm.of_eq ?_)
   unfold Q8
   rw [List.map_cons]
   congr 1
   · simp [Xw, je.named, je.withFile, Jt]
   · refine List.map_congr_left (fun p hp => ?_)
     simp [Xw, je.named, je.withFile, hnew p hp]
theorem View.removed {S : je} {V : List (Str × List UInt8)} (h : View S V) (n : Str) : View (S.named ⟨[], n, [], Option.none⟩) (without V n) := by
 obtain ⟨T, F, q⟩ := h
 refine ⟨without T n, ⟨?_, fun p hp => F.files p (xu.1 hp).1, F.apart.sublist List.filter_sublist⟩, ?_⟩
 · show di (doA S.names ⟨[], n, [], Option.none⟩) _
   exact F.toks.del n
 · rw [← Yb]
   exact q.filter _
theorem View.renamed {S : je} {V : List (Str × List UInt8)} (h : View S V) {sr ds : Str} (hds : ds ≠ []) (hne : ds ≠ sr) {f : Nat} {a : yw} (hA : S.at sr = some f) (ha : S.files f = some a) :
   View (S.named ⟨[], sr, ds, some f⟩) (yu (without V sr) ds a.bytes) := by
 obtain ⟨T, F, q⟩ := h
 have hm := F.at.1 hA
 have hn2 : ds.isEmpty = false := by cases ds <;> simp_all
 have hd : (S.named ⟨[], sr, ds, some f⟩).names = (S.names.put (.string ds) (.held f)).del (.string sr) := by
   simp [je.named, doA, hn2, Aq, hne]
 have ht := (F.toks.put ds f).del sr
 have e : without ((ds, f) :: without T ds) sr = (ds, f) :: without (without T sr) ds := by
   unfold without
   rw [List.filter_cons_of_pos (by simpa using hne), List.filter_filter, List.filter_filter]
   congr 1
   refine List.filter_congr (fun p _ => ?_)
   rw [Bool.and_comm]
 rw [e] at ht
 have hother : ∀ p ∈ without (without T sr) ds, p.2 ≠ f := fun p hp e => by
   have h1 := (xu.1 (xu.1 hp).1)
   have H : ∀ {T : List Tok}, T.Pairwise (fun p q => p.2 ≠ q.2) → ∀ a ∈ T, ∀ b ∈ T, a.2 = b.2 → a = b := by
     intro T
     induction T with
     | nil => intro _ a ha; cases ha
     | cons x r ih =>
       intro hp a ha b hb e
       obtain ⟨h1, h2⟩ := List.pairwise_cons.1 hp
       rcases List.mem_cons.1 ha with ea | ha' <;> rcases List.mem_cons.1 hb with eb | hb'
       · exact ea.trans eb.symm
       · exact (h1 b hb' (ea ▸ e)).elim
       · exact (h1 a ha' (eb ▸ e.symm)).elim
       · exact ih h2 a ha' b hb' e
   exact h1.2 (by rw [H F.apart p h1.1 (sr, f) hm e])
 refine ⟨(ds, f) :: without (without T sr) ds, ⟨by rw [hd]; exact ht, fun p hp => ?_, ?_⟩, ?_⟩
 · rcases List.mem_cons.1 hp with rfl | hp
   · exact ⟨a, ha⟩
   · exact F.files p (xu.1 (xu.1 hp).1).1
 · exact List.pairwise_cons.2 ⟨fun p hp => Ne.symm (hother p hp), (F.apart.sublist List.filter_sublist).sublist List.filter_sublist⟩
 · have q2 : (without (without V sr) ds).Perm (Q8 S.files (without (without T sr) ds)) := by
     rw [← Yb, ← Yb]; exact (q.filter _).filter _
   refine (q2.cons (ds, a.bytes)).trans (List.Perm.of_eq ?_)
   unfold Q8
   rw [List.map_cons]
   congr 1
   simp only [Xw, je.named, ha]
   rfl
structure Fit (k : Nat) (S : je) : Prop where
 fs : ∃ T, Fs S T
 names : Maps.size S.names ≤ k
 safe : Maps.size S.safe + S.late.length ≤ k
 Bb : IsMap S.safe
 files : ∀ f a, S.files f = some a → a.bytes.length ≤ k ∧ a.late.length ≤ k ∧ a.safe ≤ k
 total : total S.files S.names ≤ k
 keys : ∀ n ∈ S.keys, n.length ≤ k
theorem Fit.view {k : Nat} {S : je} (h : Fit k S) : ∃ V, View S V := by
 obtain ⟨T, F⟩ := h.fs
 exact ⟨_, T, F, List.Perm.refl _⟩
theorem View.fs {S : je} {V : List (Str × List UInt8)} (h : View S V) : ∃ T, Fs S T := by
 obtain ⟨T, F, _⟩ := h
 exact ⟨T, F⟩
theorem Fit.mono {k m : Nat} {S : je} (h : Fit k S) (hm : k ≤ m) : Fit m S :=
 ⟨h.fs, Nat.le_trans h.names hm, Nat.le_trans h.safe hm, h.Bb, fun f a ha => ⟨Nat.le_trans (h.files f a ha).1 hm, Nat.le_trans (h.files f a ha).2.1 hm, Nat.le_trans (h.files f a ha).2.2 hm⟩, Nat.le_trans h.total hm, fun n hn => Nat.le_trans (h.keys n hn) hm⟩
theorem Fit.small {k : Nat} {S : je} (h : Fit k S) (hk : k < 549755813888) : Small S :=
 ⟨by have := h.names; omega, by have := h.safe; omega, by have := h.safe; omega, fun f a ha => by have := h.files f a ha; omega⟩
theorem Fit.like {k : Nat} {S S' : je} (h : Fit k S) (h1 : S'.names = S.names) (h2 : S'.files = S.files) (h3 : S'.safe = S.safe) (h4 : S'.late = S.late) : Fit k S' := by
 obtain ⟨V, hV⟩ := h.view
 exact ⟨(hV.like h1 h2).fs, by rw [h1]; exact h.names, by rw [h3, h4]; exact h.safe, by rw [h3]; exact h.Bb, by rw [h2]; exact h.files, by rw [h1, h2]; exact h.total, by unfold je.keys; rw [h1]; exact h.keys⟩
theorem Fit.called {k : Nat} {S : je} (h : Fit k S) (ch : Bool) : Fit k (S.called ch) := h.like rfl rfl rfl rfl
theorem Fit.write {k : Nat} {S : je} (h : Fit k S) {n : Str} {f : Nat} {a : yw} (hA : S.at n = some f) (ha : S.files f = some a) {c : Nat} {a' : yw} (hb : a'.bytes.length ≤ a.bytes.length + c) (hl : a'.late.length ≤ a.late.length + c) (hs : a'.safe ≤ k + c) : Fit (k + c) (S.withFile f a') := by
 obtain ⟨V, hV⟩ := h.view
 have hW := hV.write hA a'
 have hm := hV.of hA ha
 refine ⟨hW.fs, Nat.le_trans h.names (by omega), Nat.le_trans h.safe (by omega), h.Bb, fun g b hg => ?_, ?_, fun n hn => Nat.le_trans (h.keys n hn) (by omega)⟩
 · by_cases e : g = f
   · simp [je.withFile, e] at hg
     subst hg
     have := h.files f a ha
     omega
   · simp [je.withFile, e] at hg
     have := h.files g b hg
     omega
 · rw [hW.total]
   have h1 := Bn hV.apart hm
   have h2 := h.total
   rw [hV.total] at h2
   unfold yu
   rw [yz]
   show a'.bytes.length + qm (without V n) ≤ k + c
   omega
theorem Fit.synced {k : Nat} {S : je} (h : Fit k S) {n : Str} {f : Nat} {a : yw} (hA : S.at n = some f) (ha : S.files f = some a) : Fit k (S.withFile f a.synced) :=
 h.write (c := 0) hA ha (by simp [yw.synced]) (by simp [yw.synced]) (by have := h.files f a ha; simp [yw.synced]; omega)
theorem Fit.put {k : Nat} {S : je} (h : Fit k S) {n : Str} {f : Nat} {a : yw} (hA : S.at n = some f) (ha : S.files f = some a) (src : List UInt8) : Fit (k + src.length) (S.withFile f (a.put src)) := by
 have h0 := h.files f a ha
 by_cases e : src = []
 · refine h.write hA ha ?_ ?_ ?_
   all_goals (simp [yw.put, e]; try omega)
 · have : 0 < src.length := List.length_pos_iff.2 e
   refine h.write hA ha ?_ ?_ ?_
   all_goals (simp [yw.put, e]; try omega)
theorem wh (D : DataW Nat) (k : Lit) (d : DataW Nat) : Maps.size (D.put k d) ≤ Maps.size D + 1 := by
 cases D with
 | map es =>
   show (DataW.insert (k, d) (es.filter fun p => !p.1.sameKey k)).length ≤ es.length + 1
   rw [(insert_perm _ _).length_eq, List.length_cons]
   have := List.length_filter_le (fun p : Lit × DataW Nat => !p.1.sameKey k) es
   omega
 | _ => exact Nat.le_succ _
theorem Gb (D : DataW Nat) (k : Lit) : Maps.size (D.del k) ≤ Maps.size D := by
 cases D with
 | map es => exact List.length_filter_le _ _
 | _ => exact Nat.le_refl _
theorem Ka (D : DataW Nat) (c : Jl) : Maps.size (doA D c) ≤ Maps.size D + 1 := by
 unfold doA
 split
 · exact wh _ _ _
 · split
   · split
     · exact Nat.le_trans (Gb _ _) (wh _ _ _)
     · exact wh _ _ _
   · exact Nat.le_trans (Gb _ _) (Nat.le_succ _)
theorem jcn {D : DataW Nat} (h : IsMap D) (c : Jl) : IsMap (doA D c) := by
 unfold doA
 split
 · exact h.put _ _
 · split
   · split
     · exact (h.put _ _).del _
     · exact h.put _ _
   · exact h.del _
theorem Mt (l : List Jl) (D : DataW Nat) : Maps.size (l.foldl doA D) ≤ Maps.size D + l.length := by
 induction l generalizing D with
 | nil => exact Nat.le_refl _
 | cons c r ih =>
   have h1 := ih (doA D c)
   have h2 := Ka D c
   rw [List.foldl_cons, List.length_cons]
   omega
theorem U6 (l : List Jl) {D : DataW Nat} (h : IsMap D) : IsMap (l.foldl doA D) := by
 induction l generalizing D with
 | nil => exact h
 | cons c r ih => exact ih (jcn h c)
theorem Fit.named {k : Nat} {S : je} (h : Fit k S) {V U : List (Str × List UInt8)} (hV : View S V) {c : Jl} (hU : View (S.named c) U) (hs : qm U ≤ qm V) {m : Nat} (hk : ∀ n ∈ U.map Prod.fst, n.length ≤ k + m) : Fit (k + 1 + m) (S.named c) := by
 have h1 := Ka S.names c
 have h2 := h.names
 have h3 := h.safe
 have h4 := h.total
 rw [hV.total] at h4
 refine ⟨hU.fs, by show Maps.size (doA S.names c) ≤ _; omega, ?_, h.Bb, fun f a ha => ?_, ?_, fun n hn => ?_⟩
 · show Maps.size S.safe + (S.late ++ [c]).length ≤ _
   rw [List.length_append, List.length_singleton]
   omega
 · have := h.files f a ha
   omega
 · rw [hU.total]; omega
 · have := hk n (hU.keys.mem_iff.1 hn)
   omega
theorem Fit.key {k : Nat} {S : je} (h : Fit k S) {V : List (Str × List UInt8)} (hV : View S V) : ∀ n ∈ V.map Prod.fst, n.length ≤ k := fun n hn => h.keys n (hV.keys.mem_iff.2 hn)
theorem Td {V : List (Str × List UInt8)} {n m : Str} {b : List UInt8} (h : m ∈ (yu V n b).map Prod.fst) : m = n ∨ m ∈ V.map Prod.fst := by
 unfold yu at h
 rw [List.map_cons] at h
 rcases List.mem_cons.1 h with h | h
 · exact .inl h
 · obtain ⟨p, hp, e⟩ := List.mem_map.1 h
   exact .inr (List.mem_map.2 ⟨p, (xu.1 hp).1, e⟩)
theorem Fit.create {k : Nat} {S : je} (h : Fit k S) {f : Nat} (hf : S.files f = none) {n : Str} (hn : n ≠ []) : Fit (k + 1 + n.length) ((S.withFile f Jt).named ⟨n, [], [], some f⟩) := by
 obtain ⟨V, hV⟩ := h.view
 have hU := hV.create hf hn
 obtain ⟨T, F, q⟩ := hV
 have hne : ∀ p ∈ T, p.2 ≠ f := fun p hp e => by obtain ⟨a, ha⟩ := F.files p hp; rw [e, hf] at ha; cases ha
 have hV' : View (S.withFile f Jt) V := by
   refine ⟨T, ⟨F.toks, fun p hp => ?_, F.apart⟩, q.trans (List.Perm.of_eq ?_)⟩
   · obtain ⟨a, ha⟩ := F.files p hp
     exact ⟨a, by simp [je.withFile, hne p hp, ha]⟩
   · refine List.map_congr_left (fun p hp => ?_)
     simp [Xw, je.withFile, hne p hp]
 have h' : Fit k (S.withFile f Jt) := by
   refine ⟨hV'.fs, h.names, h.safe, h.Bb, fun g a hg => ?_, ?_, h.keys⟩
   · by_cases e : g = f
     · simp [je.withFile, e] at hg
       subst hg
       simp [Jt]
     · simp [je.withFile, e] at hg
       exact h.files g a hg
   · rw [hV'.total]
     have := h.total
     rwa [View.total ⟨T, F, q⟩] at this
 refine h'.named hV' hU ?_ (fun m hm => ?_)
 · unfold yu
   rw [yz]
   have := yx V n
   show 0 + qm (without V n) ≤ qm V
   omega
 · rcases Td hm with rfl | hm
   · omega
   · have := h'.key hV' m hm
     omega
theorem Fit.removed {k : Nat} {S : je} (h : Fit k S) (n : Str) : Fit (k + 1) (S.named ⟨[], n, [], none⟩) := by
 obtain ⟨V, hV⟩ := h.view
 refine h.named (m := 0) hV (hV.removed n) (yx V n) (fun m hm => ?_)
 obtain ⟨p, hp, e⟩ := List.mem_map.1 hm
 exact h.key hV m (List.mem_map.2 ⟨p, (xu.1 hp).1, e⟩)
theorem Fit.renamed {k : Nat} {S : je} (h : Fit k S) {sr ds : Str} (hds : ds ≠ []) (hne : ds ≠ sr) {f : Nat} {a : yw} (hA : S.at sr = some f) (ha : S.files f = some a) : Fit (k + 1 + ds.length) (S.named ⟨[], sr, ds, some f⟩) := by
 obtain ⟨V, hV⟩ := h.view
 have hU := hV.renamed hds hne hA ha
 refine h.named (m := ds.length) hV hU ?_ (fun m hm => ?_)
 · have h1 := Bn hV.apart (hV.of hA ha)
   have h2 := yx (without V sr) ds
   unfold yu
   rw [yz]
   show a.bytes.length + _ ≤ _
   omega
 · rcases Td hm with rfl | hm
   · omega
   · obtain ⟨p, hp, e⟩ := List.mem_map.1 hm
     have := h.key hV m (List.mem_map.2 ⟨p, (xu.1 hp).1, e⟩)
     omega
theorem Fit.u7 {k : Nat} {S : je} (h : Fit k S) : Fit k S.u7.1 := by
 unfold je.u7
 split
 · exact h.called true
 · have h1 := Mt S.late S.safe
   have h2 := h.safe
   obtain ⟨V, hV⟩ := h.view
   exact ⟨(hV.like (S' := { S.called true with safe := S.late.foldl doA S.safe, late := [] }) rfl rfl).fs, h.names, by show Maps.size (S.late.foldl doA S.safe) + 0 ≤ k; omega, U6 _ h.Bb, h.files, h.total, h.keys⟩
theorem Fit.Qq {k : Nat} {S : je} (h : Fit k S) (n : Str) : Fit k (S.Qq n).1 := by
 unfold je.Qq
 split
 · exact h.called true
 · split
   · exact h.called true
   · rename_i f hA
     split
     · exact h.called true
     · rename_i a ha
       exact (h.called true).synced (n := n) hA ha
theorem Fit.X8 {k : Nat} {S : je} (h : Fit k S) (ns : List Str) : Fit k (je.X8 ns S).1 := by
 induction ns generalizing S with
 | nil => exact h.u7
 | cons n r ih =>
   unfold je.X8
   split
   · exact ih (h.Qq n)
   · exact h.Qq n
theorem Fit.ze {k : Nat} {S : je} (h : Fit k S) (n : Str) : Fit (k + 1) (S.ze n).1 := by
 unfold je.ze
 split
 · exact (h.called true).mono (by omega)
 · split
   · exact (h.called true).mono (by omega)
   · exact (h.called true).removed n
theorem Fit.Qe {k : Nat} {S : je} (h : Fit k S) {sr ds : Str} (hne : ds ≠ sr) : Fit (k + 1 + ds.length) (S.Qe sr ds).1 := by
 unfold je.Qe
 split
 · exact (h.called true).mono (by omega)
 · split
   · exact (h.called true).mono (by omega)
   · rename_i f hA
     split
     · exact (h.called true).mono (by omega)
     · rename_i hds
       obtain ⟨T, F⟩ := h.fs
       obtain ⟨a, ha⟩ := F.files _ (F.at.1 hA)
       exact (h.called true).renamed hds hne (sr := sr) hA ha
theorem Fit.Jq {k : Nat} {S : je} (h : Fit k S) (ns : List Str) : Fit (k + ns.length) (je.Jq ns S).1 := by
 induction ns generalizing S k with
 | nil => exact h
 | cons n r ih =>
   unfold je.Jq
   split
   · exact (ih (h.ze n)).mono (by rw [List.length_cons]; omega)
   · exact (h.ze n).mono (by rw [List.length_cons]; omega)
theorem Fit.Q5 {k : Nat} {F : je × Bool} (h : Fit k F.1) : Fit k (Go.Proofs.YtnipbplghijdmaaGreatDoor.Q5 F).1 := by
 unfold Go.Proofs.YtnipbplghijdmaaGreatDoor.Q5
 split
 · exact h.u7
 · exact h
theorem Fit.zh {k : Nat} {S : je} (h : Fit k S) (ns : List Str) : Fit (k + ns.length) (je.zh ns S).1 := by
 unfold je.zh
 split
 · exact h.mono (by omega)
 · exact (h.Jq ns).Q5
theorem Fit.Yl {k : Nat} {S : je} (h : Fit k S) (ks : List Str) : Fit (k + S.keys.length) (je.Yl ks S).1 := by
 unfold je.Yl
 split
 · exact (h.called false).mono (by omega)
 · refine ((h.called false).zh _).mono ?_
   have : (others ks S.keys).length ≤ S.keys.length := List.length_filter_le _ _
   omega
theorem Fit.U2 {k : Nat} {S : je} (h : Fit k S) : S.keys.length ≤ k := by
 obtain ⟨V, hV⟩ := h.view
 rw [hV.keys.length_eq, List.length_map, ← hV.count]
 exact h.names
theorem Fit.new : Fit 0 je.new := by
 refine ⟨⟨[], ⟨di.nil, fun p hp => (by cases hp), List.Pairwise.nil⟩⟩, Nat.le_refl _, Nat.le_refl _, ⟨[], rfl⟩, fun f a h => (by cases h), Nat.le_refl _, fun n hn => ?_⟩
 have : je.new.keys = [] := by simp [je.keys, je.new, strKeys]
 rw [this] at hn
 cases hn
abbrev DStep := je → je → Bool → Prop
def Fn (f : je → je × Bool) : DStep := fun S S' ok => f S = (S', ok)
def ja3 : List DStep → DStep
 | [], S, S', ok => S' = S ∧ ok = true
 | R :: r, S, S', ok => (R S S' false ∧ ok = false) ∨ ∃ S1, R S S1 true ∧ ja3 r S1 S' ok
def jfo (nm : Str) (b : List UInt8) : DStep := fun S S' ok => ∃ f a, S.at nm = some f ∧ S.files f = some a ∧
 (((S.bad = true ∨ 20000 < b.length + total S.files S.names) ∧ S' = (S.called true).withFile f (a.put (b.take (b.length / 2))) ∧ ok = false) ∨
  (S.bad = false ∧ b.length + total S.files S.names ≤ 20000 ∧ S' = (S.called true).withFile f (a.put b) ∧ ok = true))
def ja4 (nm : Str) : DStep := fun S S' ok =>
 (S.bad = true ∧ S' = S.called true ∧ ok = false) ∨ (S.bad = false ∧ ok = true ∧ ∃ f, S.files f = none ∧ S' = ((S.called true).withFile f Jt).named ⟨nm, [], [], some f⟩)
def ja2 (nm : Str) (b : List UInt8) : DStep := if b = [] then ja4 nm else ja3 [ja4 nm, jfo nm b]
def qd : Str := [109, 97, 110, 105, 102, 101, 115, 116]
def yh : Str := [109, 97, 110, 105, 102, 101, 115, 116, 46, 116, 109, 112]
theorem Fit.jhb {k : Nat} {S S' : je} {ok : Bool} {nm : Str} {b : List UInt8} (h : Fit k S) (r : jfo nm b S S' ok) : Fit (k + b.length) S' := by
 obtain ⟨f, a, hA, ha, ⟨_, rfl, _⟩ | ⟨_, _, rfl, _⟩⟩ := r
 · exact ((h.called true).put (n := nm) hA ha _).mono (by rw [List.length_take]; omega)
 · exact (h.called true).put (n := nm) hA ha _
theorem Fit.jgc {k : Nat} {S S' : je} {ok : Bool} {nm : Str} (h : Fit k S) (hn : nm ≠ []) (r : ja4 nm S S' ok) : Fit (k + 1 + nm.length) S' := by
 obtain ⟨_, rfl, _⟩ | ⟨_, _, f, hf, rfl⟩ := r
 · exact (h.called true).mono (by omega)
 · exact (h.called true).create hf hn
theorem Fit.jhw {k : Nat} {S S' : je} {ok : Bool} {nm : Str} {b : List UInt8} (h : Fit k S) (hn : nm ≠ []) (r : ja2 nm b S S' ok) : Fit (k + 1 + nm.length + b.length) S' := by
 unfold ja2 at r
 split at r
 · exact (h.jgc hn r).mono (by omega)
 · obtain ⟨r, _⟩ | ⟨S1, r1, r2⟩ := r
   · exact (h.jgc hn r).mono (by omega)
   · have h1 := h.jgc hn r1
     obtain ⟨r, _⟩ | ⟨S2, r3, rfl, _⟩ := r2
     · exact h1.jhb r
     · exact h1.jhb r3
structure J6 (S : je) : Prop where
 fail : S.fail = -1
 cut : S.cut = -1
theorem J6.bad {S : je} (h : J6 S) : S.bad = false := by simp [je.bad, h.fail, h.cut]
theorem J6.called {S : je} (h : J6 S) (ch : Bool) : J6 (S.called ch) := ⟨by simp [je.called, h.fail], by simp [je.called, h.cut]⟩
theorem J6.like {S S' : je} (h : J6 S) (h1 : S'.fail = S.fail) (h2 : S'.cut = S.cut) : J6 S' := ⟨h1.trans h.fail, h2.trans h.cut⟩
theorem J6.new : J6 je.new := ⟨rfl, rfl⟩
theorem J6.sync {S : je} (h : J6 S) {V : List (Str × List UInt8)} (hV : View S V) {n : Str} {b : List UInt8} (hm : (n, b) ∈ V) : (S.Qq n).2 = true ∧ J6 (S.Qq n).1 ∧ View (S.Qq n).1 V := by
 obtain ⟨f, a, hA, ha, _⟩ := hV.get hm
 have e : S.Qq n = ((S.called true).withFile f a.synced, true) := by
   unfold je.Qq
   rw [if_neg (by rw [h.bad]; decide), hA]
   simp only [ha]
 rw [e]
 exact ⟨rfl, (h.called true).like rfl rfl, (hV.called true).synced (n := n) hA ha⟩
theorem J6.dir {S : je} (h : J6 S) {V : List (Str × List UInt8)} (hV : View S V) : S.u7.2 = true ∧ J6 S.u7.1 ∧ View S.u7.1 V ∧ S.u7.1.late = [] := by
 unfold je.u7
 rw [if_neg (by rw [h.bad]; decide)]
 exact ⟨rfl, (h.called true).like rfl rfl, hV.like rfl rfl, rfl⟩
theorem J6.sure {S : je} (h : J6 S) {V : List (Str × List UInt8)} (hV : View S V) (ns : List Str) (hn : ∀ n ∈ ns, ∃ b, (n, b) ∈ V) : (je.X8 ns S).2 = true ∧ J6 (je.X8 ns S).1 ∧ View (je.X8 ns S).1 V ∧ (je.X8 ns S).1.late = [] := by
 induction ns generalizing S with
 | nil => exact h.dir hV
 | cons n r ih =>
   obtain ⟨b, hb⟩ := hn n List.mem_cons_self
   obtain ⟨h1, h2, h3⟩ := h.sync hV hb
   unfold je.X8
   rw [if_pos h1]
   exact ih h2 h3 (fun x hx => hn x (List.mem_cons_of_mem _ hx))
theorem J6.app {S S' : je} {ok : Bool} {nm : Str} {b c : List UInt8} (h : J6 S) {V : List (Str × List UInt8)} (hV : View S V) (hm : (nm, c) ∈ V) (hb : b.length + qm V ≤ 20000) (r : jfo nm b S S' ok) : ok = true ∧ J6 S' ∧ View S' (yu V nm (c ++ b)) := by
 obtain ⟨f, a, hA, ha, ⟨hx, _, _⟩ | ⟨_, _, rfl, rfl⟩⟩ := r
 · rcases hx with hx | hx
   · rw [h.bad] at hx; cases hx
   · rw [hV.total] at hx; omega
 · obtain ⟨f', a', hA', ha', e⟩ := hV.get hm
   rw [hA] at hA'; cases hA'
   rw [ha] at ha'; cases ha'
   refine ⟨rfl, (h.called true).like rfl rfl, ?_⟩
   have := (hV.called true).write (n := nm) hA (a.put b)
   have e2 : (a.put b).bytes = c ++ b := by
     unfold yw.put
     split
     · rename_i hb; rw [e, hb, List.append_nil]
     · rw [← e]
   rwa [e2] at this
theorem J6.cre {S S' : je} {ok : Bool} {nm : Str} (h : J6 S) (hn : nm ≠ []) {V : List (Str × List UInt8)} (hV : View S V) (r : ja4 nm S S' ok) : ok = true ∧ J6 S' ∧ View S' (yu V nm []) := by
 obtain ⟨hx, _, _⟩ | ⟨_, rfl, f, hf, rfl⟩ := r
 · rw [h.bad] at hx; cases hx
 · exact ⟨rfl, (h.called true).like rfl rfl, (hV.called true).create hf hn⟩
theorem Di {α : Type} (V : List (Str × α)) (n : Str) : without (without V n) n = without V n := by
 unfold without
 rw [List.filter_filter]
 refine List.filter_congr (fun p _ => ?_)
 rw [Bool.and_self]
theorem dw {α : Type} (V : List (Str × α)) (n : Str) (b : α) : without ((n, b) :: V) n = without V n := by
 unfold without
 rw [List.filter_cons_of_neg (by simp)]
theorem jbv (V : List (Str × List UInt8)) (n : Str) (b c : List UInt8) : yu (yu V n b) n c = yu V n c := by
 unfold yu
 rw [dw, Di]
theorem J6.lay {S S' : je} {ok : Bool} {nm : Str} {b : List UInt8} (h : J6 S) (hn : nm ≠ []) {V : List (Str × List UInt8)} (hV : View S V) (hb : b.length + qm (without V nm) ≤ 20000) (r : ja2 nm b S S' ok) : ok = true ∧ J6 S' ∧ View S' (yu V nm b) := by
 unfold ja2 at r
 split at r
 · rename_i e
   rw [e]
   exact h.cre hn hV r
 · obtain ⟨r, _⟩ | ⟨S1, r1, r2⟩ := r
   · obtain ⟨e, _⟩ := h.cre hn hV r
     cases e
   · obtain ⟨_, h1, hV1⟩ := h.cre hn hV r1
     have hs : b.length + qm (yu V nm []) ≤ 20000 := by
       unfold yu
       rw [yz]
       show b.length + (0 + qm (without V nm)) ≤ 20000
       omega
     obtain ⟨r, _⟩ | ⟨S2, r3, rfl, rfl⟩ := r2
     · obtain ⟨e, _⟩ := h1.app hV1 List.mem_cons_self hs r
       cases e
     · obtain ⟨_, h2, hV2⟩ := h1.app hV1 List.mem_cons_self hs r3
       refine ⟨rfl, h2, ?_⟩
       rw [jbv, List.nil_append] at hV2
       exact hV2
theorem J6.rename {S : je} (h : J6 S) {sr ds : Str} (hds : ds ≠ []) (hne : ds ≠ sr) {V : List (Str × List UInt8)} (hV : View S V) {b : List UInt8} (hm : (sr, b) ∈ V) :
   (Q5 (S.Qe sr ds)).2 = true ∧ J6 (Q5 (S.Qe sr ds)).1 ∧ View (Q5 (S.Qe sr ds)).1 (yu (without V sr) ds b) ∧ (Q5 (S.Qe sr ds)).1.late = [] := by
 obtain ⟨f, a, hA, ha, e⟩ := hV.get hm
 have e1 : S.Qe sr ds = ((S.called true).named ⟨[], sr, ds, some f⟩, true) := by
   unfold je.Qe
   rw [if_neg (by rw [h.bad]; decide), hA]
   simp only [hds, if_false]
 have hV1 := (hV.called true).renamed hds hne (sr := sr) hA ha
 rw [e] at hV1
 unfold Q5
 rw [e1]
 have hW : J6 ((S.called true).named ⟨[], sr, ds, some f⟩) := (h.called true).like rfl rfl
 exact hW.dir hV1
theorem J6.remove {S : je} (h : J6 S) {V : List (Str × List UInt8)} (hV : View S V) {n : Str} {b : List UInt8} (hm : (n, b) ∈ V) : (S.ze n).2 = true ∧ J6 (S.ze n).1 ∧ View (S.ze n).1 (without V n) := by
 obtain ⟨f, a, hA, ha, e⟩ := hV.get hm
 have e1 : S.ze n = ((S.called true).named ⟨[], n, [], none⟩, true) := by
   unfold je.ze
   rw [if_neg (by rw [h.bad]; decide), hA]
 rw [e1]
 exact ⟨rfl, (h.called true).like rfl rfl, (hV.called true).removed n⟩
theorem J6.removes {S : je} (h : J6 S) {V : List (Str × List UInt8)} (hV : View S V) (ns : List Str) (hd : ns.Nodup) (hn : ∀ n ∈ ns, ∃ b, (n, b) ∈ V) :
   (je.Jq ns S).2 = true ∧ J6 (je.Jq ns S).1 ∧ View (je.Jq ns S).1 (V.filter (fun p => decide (p.1 ∉ ns))) := by
 induction ns generalizing S V with
 | nil =>
   refine ⟨rfl, h, ?_⟩
   rw [List.filter_eq_self.2 (fun p _ => by simp)]
   exact hV
 | cons n r ih =>
   obtain ⟨b, hb⟩ := hn n List.mem_cons_self
   obtain ⟨h1, h2, h3⟩ := h.remove hV hb
   obtain ⟨d1, d2⟩ := List.nodup_cons.1 hd
   unfold je.Jq
   rw [if_pos h1]
   obtain ⟨g1, g2, g3⟩ := ih h2 h3 d2 (fun x hx => by
     obtain ⟨c, hc⟩ := hn x (List.mem_cons_of_mem _ hx)
     exact ⟨c, xu.2 ⟨hc, fun e => d1 (by have e2 : x = n := e; rw [← e2]; exact hx)⟩⟩)
   refine ⟨g1, g2, ?_⟩
   have e : (without V n).filter (fun p => decide (p.1 ∉ r)) = V.filter (fun p => decide (p.1 ∉ n :: r)) := by
     unfold without
     rw [List.filter_filter]
     refine List.filter_congr (fun p _ => ?_)
     rw [Bool.eq_iff_iff]
     simp only [Bool.and_eq_true, decide_eq_true_eq, List.mem_cons, not_or]
     exact And.comm
   rwa [e] at g3
theorem J6.removeAll {S : je} (h : J6 S) {V : List (Str × List UInt8)} (hV : View S V) (ns : List Str) (hd : ns.Nodup) (hn : ∀ n ∈ ns, ∃ b, (n, b) ∈ V) :
   (je.zh ns S).2 = true ∧ J6 (je.zh ns S).1 ∧ View (je.zh ns S).1 (V.filter (fun p => decide (p.1 ∉ ns))) ∧ (S.late = [] → (je.zh ns S).1.late = []) := by
 unfold je.zh
 split
 · rename_i e
   refine ⟨rfl, h, ?_, fun e => e⟩
   rw [e, List.filter_eq_self.2 (fun p _ => by simp)]
   exact hV
 · obtain ⟨h1, h2, h3⟩ := h.removes hV ns hd hn
   unfold Q5
   rw [if_pos h1]
   obtain ⟨g1, g2, g3, g4⟩ := h2.dir h3
   exact ⟨g1, g2, g3, fun _ => g4⟩
theorem View.jck {S : je} {V : List (Str × List UInt8)} (h : View S V) : S.keys.Nodup := by
 refine (h.keys.nodup_iff).2 ?_
 unfold List.Nodup
 rw [List.pairwise_map]
 exact h.apart
theorem J6.clear {S : je} (h : J6 S) {V : List (Str × List UInt8)} (hV : View S V) (ks : List Str) :
   (je.Yl ks S).2 = true ∧ J6 (je.Yl ks S).1 ∧ View (je.Yl ks S).1 (V.filter (fun p => decide (p.1 ∈ ks))) ∧ (S.late = [] → (je.Yl ks S).1.late = []) := by
 unfold je.Yl
 rw [if_neg (by rw [h.bad]; decide)]
 have hmem : ∀ n ∈ S.keys, ∃ b, (n, b) ∈ V := fun n hn => by
   obtain ⟨p, hp, e⟩ := List.mem_map.1 (hV.keys.mem_iff.1 hn)
   exact ⟨p.2, by rw [← e]; exact hp⟩
 have hr := J6.removeAll (h.called false) (hV.called false) (others ks S.keys) (hV.jck.sublist List.filter_sublist) (fun n hn => hmem n (List.mem_filter.1 hn).1)
 have e : V.filter (fun p => decide (p.1 ∉ others ks S.keys)) = V.filter (fun p => decide (p.1 ∈ ks)) := by
   refine List.filter_congr (fun p hp => ?_)
   have hk : p.1 ∈ S.keys := hV.keys.mem_iff.2 (List.mem_map.2 ⟨p, hp, rfl⟩)
   rw [Bool.eq_iff_iff]
   simp [others, hk]
 rwa [e] at hr
end Go.Proofs.YtnipbplghijdmaaGreatDoor
namespace Go.Proofs.YtnipbplghijdmaaGreatDoor
open Go.RowKit Go.Maps Go.WideShapes
set_option linter.unusedVariables false
def jhn (E : Nat → Addr) (B : Nat) (w : World) (ρ : Nat → jw) (d : Nat) (S : je) (R : DStep) (e : Ending) (w' : World) : Prop := ∃ S' ok, R S S' ok ∧ gq E B w ρ d (S', ok) e w'
def Off (ρ : Nat → jw) (v : Value) : Prop := ∀ p n c, v = .slice (some p) n c → ρ p.block = .none
set_option maxHeartbeats 1000000 in
set_option maxRecDepth 100000 in
theorem jf3 {E : Nat → Addr} {B : Nat} {w : World} {ρ : Nat → jw} {d k : Nat} {S : je} (D : Dk E B w ρ d S) (F : Fit k S) (nm : Str) (hn : nm ≠ []) (v : Value) (b : List UInt8) (hv : Bytes w v b) (hoff : Off ρ v)
   (hk : k + 1 + nm.length + b.length < 549755813888) :
   Calls Tryz.prog 114 #[.pointer (some ⟨d, 0, none⟩), jc nm, v] w (jhn E B w ρ d S (ja2 nm b)) := by
 have Z : Small S := F.small (by omega)
 have hnl : nm.length < 1099511627776 := by omega
 obtain ⟨p, c, rfl, hb1, hb2, hb3, hb4⟩ := id hv
 have hlay : ∀ S' ok, ja2 nm b S S' ok = (if b = [] then ja4 nm else ja3 [ja4 nm, jfo nm b]) S S' ok := fun _ _ => rfl
 obtain ⟨R0, hR0⟩ : ∃ R0, R0 = ja2 nm b := ⟨_, rfl⟩
 rw [← hR0] at hlay ⊢
 have HL := hide hlay
 have HV := hide hv
 clear hlay hR0 hb3 hb4 hv
 go_enter Tryz.func114, Tryz.ntmps114
 go_wp2_with fail
 refine (jar nm D.rep Z hnl).mono ?_
 rintro e w1 ⟨ρ1, g1, ⟨hB, rfl, R1⟩ | ⟨hB, hA, rfl, R1⟩ | ⟨hB, hA, rfl, f, hf, R1⟩⟩
 · have D1 := D.step g1 R1
   go_wp2_with fail
   refine (J8 D1.sent nm 1 (by decide)).mono ?_
   rintro e w2 ⟨v2, rfl, he, k2⟩
   obtain ⟨t, a, rfl⟩ := he.shape
   go_wp2
   go_ret
   refine ⟨S.called true, false, ?_, ρ1, g1.same k2, D1.same k2, .inr ⟨rfl, _, rfl, he⟩⟩
   rw [HL.out]
   split
   · exact .inl ⟨hB, rfl, rfl⟩
   · exact .inl ⟨.inl ⟨hB, rfl, rfl⟩, rfl⟩
 · exact absurd hA hn
 · have D1 := D.step g1 R1
   have hcre : ja4 nm S (((S.called true).withFile f Jt).named ⟨nm, [], [], some f⟩) true := .inr ⟨hB, rfl, f, hf, rfl⟩
   have F1 := F.jgc hn hcre
   have hat : (((S.called true).withFile f Jt).named ⟨nm, [], [], some f⟩).at nm = some f := by
     obtain ⟨V, hV⟩ := F.view
     have hU := (hV.called true).create hf hn
     obtain ⟨f', a', h1, h2, h3⟩ := hU.get (n := nm) (b := []) List.mem_cons_self
     have hne : nm.isEmpty = false := by cases nm <;> simp_all
     unfold je.at
     simp only [je.named, doA, hne, if_true, Aq]
     rw [atKey_put_same (k := .string nm) ?_ (by trivial)]
     · rfl
     · obtain ⟨T, ⟨⟨es, e, _⟩, _⟩, _⟩ := F.fs
       exact ⟨es, e⟩
   have hfile : (((S.called true).withFile f Jt).named ⟨nm, [], [], some f⟩).files f = some Jt := by simp [je.named, je.withFile]
   generalize hS1 : ((S.called true).withFile f Jt).named ⟨nm, [], [], some f⟩ = S1 at *
   have HA := hide hat
   have HF := hide hfile
   have HC := hide hcre
   clear hS1 hat hfile hcre
   go_wp2_with fail
   refine (Xc nm w1).mono ?_
   rintro e w2 ⟨rfl, rfl⟩
   by_cases hb0 : b = []
   · subst hb0
     go_wp2
     go_ret
     refine ⟨S1, true, ?_, ρ1, g1, D1, .inl ⟨rfl, rfl⟩⟩
     rw [HL.out]
     exact HC.out
   · have hpos : 0 < b.length := List.length_pos_iff.2 hb0
     have hneB : ((b.length : Int) == 0) = false := by simp; omega
     obtain ⟨ad, rfl⟩ : ∃ ad, p = some ad := by
       cases p with
       | some ad => exact ⟨ad, rfl⟩
       | none =>
         obtain ⟨p', c', e, h1, h2, h3, h4⟩ := HV.out
         cases e
         have := h3 rfl
         omega
     have hv1 : Bytes w2 (.slice (some ad) b.length c) b := HV.out.keep g1.keeps (fun p n c' e h => by cases e; exact h (hoff _ _ _ rfl))
     have hr1 : ρ1 ad.block = .none := (g1.role _ (HV.out.lt hb0)).trans (hoff _ _ _ rfl)
     have harg : Arg w2 ρ1 (.slice (some ad) b.length c) b := by
       obtain ⟨p', c', e, h1, h2, h3, h4⟩ := hv1
       cases e
       exact .inr ⟨ad, c, rfl, h1, hr1, fun j u hu => by
         rw [List.getElem?_map] at hu
         obtain ⟨x, hx, rfl⟩ := Option.map_eq_some_iff.1 hu
         exact (h4 ad rfl).2 j x hx⟩
     have Z1 : Small S1 := F1.small (by omega)
     have ht1 : total S1.files S1.names < 1099511627776 := by have := F1.total; omega
     have HT := hide ht1
     clear ht1 hv1
     go_wp2_with fail
     refine (Gx nm b ad c D1.rep Z1 hnl HA.out HF.out hpos (by omega) harg (by omega) hb2 HT.out).mono ?_
     rintro e w3 ⟨ρ3, g3, ⟨hx, rfl, R3⟩ | ⟨hx, hy, rfl, R3⟩⟩
     · have D3 := D1.step g3 R3
       go_wp2_with fail
       refine (J8 D3.sent nm 1 (by decide)).mono ?_
       rintro e w4 ⟨v4, rfl, he, k4⟩
       go_wp2
       go_ret
       refine ⟨_, false, ?_, ρ3, (g1.trans g3).same k4, D3.same k4, .inr ⟨rfl, v4, rfl, he⟩⟩
       rw [HL.out, if_neg hb0]
       exact .inr ⟨S1, HC.out, .inl ⟨⟨f, Jt, HA.out, HF.out, .inl ⟨hx, rfl, rfl⟩⟩, rfl⟩⟩
     · have D3 := D1.step g3 R3
       go_wp2_with fail
       refine (Xc nm w3).mono ?_
       rintro e w4 ⟨rfl, rfl⟩
       go_wp2
       go_ret
       refine ⟨_, true, ?_, ρ3, g1.trans g3, D3, .inl ⟨rfl, rfl⟩⟩
       rw [HL.out, if_neg hb0]
       exact .inr ⟨S1, HC.out, .inr ⟨_, ⟨f, Jt, HA.out, HF.out, .inr ⟨hx, hy, rfl, rfl⟩⟩, rfl, rfl⟩⟩
end Go.Proofs.YtnipbplghijdmaaGreatDoor
