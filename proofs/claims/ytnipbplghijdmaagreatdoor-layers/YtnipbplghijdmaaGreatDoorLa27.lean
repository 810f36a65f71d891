/-
  La: RunI RunJ LayersB LayersC Live.
-/
import Derived.Test.YtnipbplghijdmaaGreatDoorLa26
import Derived.Test.YtnipbplghijdmaaGreatDoorLa23
import Derived.Test.YtnipbplghijdmaaGreatDoorLa24
namespace Go.Proofs.YtnipbplghijdmaaGreatDoor
open Go.RowKit Go.Maps Go.WideShapes
set_option linter.unusedVariables false
def Zm (bl : List (List Ref.Ch)) (key : Str) (i : Nat) : List Ref.Ch := ((bl.take i).flatten).filter (Ref.qh key)
def E9 (S : je) (bl : List (List Ref.Ch)) (key : Str) : List Ref.Ch := if S.bad = true then [] else bl.flatten.filter (Ref.qh key)
def gz (S : je) : Option Bool := if S.bad = true then some true else none
theorem jap {bl : List (List Ref.Ch)} {key : Str} {i : Nat} (h : bl.length ≤ i) : Zm bl key i = bl.flatten.filter (Ref.qh key) := by unfold Zm; rw [List.take_of_length_le h]
theorem Sv {bl : List (List Ref.Ch)} (h : Ref.Laid bl) (key : Str) : Zm bl key (Ref.gy (Ref.jl 0 bl) key) = [] :=
 List.filter_eq_nil_iff.2 (fun c hc => by simpa [Ref.qh] using h.skipped key c hc)
theorem Vo {bl : List (List Ref.Ch)} {key : Str} {i : Nat} {b : List Ref.Ch} (h : bl[i]? = some b) : Zm bl key (i + 1) = Zm bl key i ++ b.filter (Ref.qh key) := by
 unfold Zm
 rw [List.take_add_one, h, Option.toList_some, List.flatten_append, List.filter_append]
 simp
theorem jgb {bl : List (List Ref.Ch)} {key : Str} {i j : Nat} {b : List Ref.Ch} {c : Ref.Ch} (h : bl[i]? = some b) (hc : b[j]? = some c) (hk : Ref.qh key c = true) :
   let pre := Zm bl key i ++ (b.take j).filter (Ref.qh key)
   pre = (bl.flatten.filter (Ref.qh key)).take pre.length ∧ (bl.flatten.filter (Ref.qh key))[pre.length]? = some c := by
 intro pre
 have hb : b = b.take j ++ c :: b.drop (j + 1) := by
   have e : b[j]'((List.getElem?_eq_some_iff.1 hc).1) = c := (List.getElem?_eq_some_iff.1 hc).2
   rw [← e, List.getElem_cons_drop, List.take_append_drop]
 have hl : bl = bl.take i ++ b :: bl.drop (i + 1) := by
   have e : bl[i]'((List.getElem?_eq_some_iff.1 h).1) = b := (List.getElem?_eq_some_iff.1 h).2
   rw [← e, List.getElem_cons_drop, List.take_append_drop]
 have hall : bl.flatten.filter (Ref.qh key) = pre ++ c :: ((b.drop (j + 1)).filter (Ref.qh key) ++ ((bl.drop (i + 1)).flatten).filter (Ref.qh key)) := by
   conv => lhs; rw [hl]
   rw [List.flatten_append, List.flatten_cons, List.filter_append, List.filter_append]
   conv => lhs; arg 2; arg 1; rw [hb]
   rw [List.filter_append, List.filter_cons_of_pos hk]
   simp [pre, Zm]
 rw [hall]
 constructor
 · simp
 · simp
theorem jfv {ps : List (Nat × Str)} (key : Str) : Ref.gy ps key ≤ ps.length := by
 have := Ref.Ev ps key
 unfold Ref.gy
 split <;> omega
theorem jfs {bl : List (List Ref.Ch)} (i : Nat) : Ref.Q7 (bl.flatMap Ref.jr).length (Ref.jl 0 bl) i ≤ (Ref.Je bl).length := by
 have h1 : (bl.flatMap Ref.jr).length ≤ (Ref.Je bl).length := by unfold Ref.Je; rw [List.length_append, List.length_append]; omega
 have h2 : Ref.Q7 (bl.flatMap Ref.jr).length (Ref.jl 0 bl) i ≤ (bl.flatMap Ref.jr).length := by
   unfold Ref.Q7
   cases h : (Ref.jl 0 bl)[i + 1]? with
   | none => exact Nat.le_refl _
   | some p =>
     have := (Ref.pg 0 bl p (List.mem_of_getElem? h)).2
     show p.1 ≤ _
     omega
 omega
theorem A9.jhr {w : World} {base : Nat} {rv : Value} {bl : List (List Ref.Ch)} (h : A9 w base rv bl) (hl : Ref.Laid bl) (key : Str) :
   Calls Tryz.prog 236 #[rv, jc key] w fun e w' => e = .returned (j4 (Ref.gy (Ref.jl 0 bl) key)) ∧ ja w w' (fun _ => False) := by
 obtain ⟨p, c, g, cap, rfl, h1, h2, h3, h4⟩ := h
 have := hl.small.2
 exact jdm key (Ref.xm 0 bl) h2 (hl.parted key) (by omega)
theorem A9.count {w : World} {base : Nat} {rv : Value} {bl : List (List Ref.Ch)} (h : A9 w base rv bl) :
   Calls Tryz.prog 237 #[rv] w fun e w' => e = .returned (j4 bl.length) ∧ ja w w' (fun _ => False) := by
 obtain ⟨p, c, g, cap, rfl, h1, h2, h3, h4⟩ := h
 exact jcx
theorem A9.block {E : Nat → Addr} {B : Nat} {w : World} {base : Nat} {rv : Value} {bl : List (List Ref.Ch)} (h : A9 w base rv bl) (hl : Ref.Laid bl) (hsz : (Ref.Je bl).length < 1099511627776) (S : Q0 E B w) (hB : B ≤ w.heap.size) {i : Nat} {b : List Ref.Ch} (hb : bl[i]? = some b) :
   Calls Tryz.prog 238 #[rv, j4 i] w fun e w' => ∃ v, e = .returned (.tuple #[v, .nilIface]) ∧ w'.ownsRow w.heap.size 88 3 v b.length (jg b) ∧ ja w w' (fun _ => False) := by
 obtain ⟨p, c, g, cap, rfl, h1, h2, h3, h4⟩ := h
 have := hl.small.2
 exact je4 S hB (Ref.xm 0 bl) (List.getElem?_eq_some_iff.1 hb).1 h2 h1 (hl.block hb) (jfs i) (by omega) hsz
theorem Cn (ys : Array Value) (w : World) : (callFunc 212 ys).run Tryz.prog w = .ok (.enter 212 ys) w := by kernel_rfl
end Go.Proofs.YtnipbplghijdmaaGreatDoor
namespace Go.Proofs.YtnipbplghijdmaaGreatDoor
open Go.RowKit Go.Maps Go.WideShapes
set_option linter.unusedVariables false
attribute [local go_sem] Oper.semAt_some
structure jay (E : Nat → Addr) (B : Nat) (ρ : Nat → jw) (d : Nat) (S : je) (nm : Str) (bl : List (List Ref.Ch)) (W : World) : Prop where
 dk : Dk E B W ρ d S
 small : Small S
 run : Ew S nm bl
set_option maxRecDepth 100000 in
set_option maxHeartbeats 4000000 in
theorem Bv {E : Nat → Addr} {B : Nat} {ρ : Nat → jw} {d n : Nat} {S : je} (nm key : Str) (bl : List (List Ref.Ch)) (hn : nm.length < 1099511627776) (hsz : (Ref.Je bl).length < 1099511627776) :
   Gives Fence.wide n Tryz.prog 212 #[.agg #[.pointer (some ⟨d, 0, none⟩), jc nm, jc key]] #[] encI (j6 ρ) (fun i => i < B) (jay E B ρ d S nm bl) (jfn E (E9 S bl key) (gz S)) (jfm E B ρ d (S.called false) (E9 S bl key) (gz S)) (Og E B ρ d (S.called false)) := by
 intro lp n₀ J Jx aJ hY C W hbd hC hn₀ hS hJ0
 have hCB : ∀ i, C i → ¬ j6 ρ i ∧ B ≤ i := fun i hc => ⟨(hC i hc).1, Nat.le_of_not_lt (hC i hc).2⟩
 have kA := ja.alloc W (.cells #[.pointer (some ⟨d, 0, none⟩), jc nm, jc key] 293) (fun _ => False)
 have hread := T9 (key := key) (hS.dk.same kA) hS.small hn hS.run hsz
 have hlaid := hS.run.1
 have hBX := jd W (.cells #[.pointer (some ⟨d, 0, none⟩), jc nm, jc key] 293)
 have hρ := hS.dk.rep.lt
 have hBw := hS.dk.size
 have nT : ∀ i, W.heap.size ≤ i → ¬ j6 ρ i := fun i hi h => by have := hρ i h; omega
 have HREAD := hide hread
 have HBX := hide hBX
 have HC := hide hC
 have HBD := hide hbd
 clear hread hBX hS hC hbd
 show CallsIn Fence.wide n Tryz.prog 212 #[.agg #[.pointer (some ⟨d, 0, none⟩), jc nm, jc key], .func (.yield lp) #[] #[]] W _
 refine callsIn_of_wp Tryz.func212 rfl trivial ?_ rfl
 simp only [Tryz.ntmps212, List.size_toArray, List.length_cons, List.length_nil, Nat.reduceAdd, Nat.reduceSub, Array.replicate_succ, Array.replicate_zero, List.push_toArray, List.append_toArray, List.nil_append, List.cons_append]
 gi_wp2_with fail
 refine ⟨trivial, fun h => (by simp [Fence.wide] at h), (callsIn_wide.2 HREAD.out).mono ?_⟩
 rintro e w1 ⟨k1, D1, ⟨hbad, ev, rfl, hev⟩ | ⟨hbad, rv, rfl, hrun⟩⟩
 all_goals
   have kW : ja W w1 (j6 ρ) := (kA.mono (fun _ _ h => h.elim)).trans k1 (fun _ _ h => h)
   have hs1 : W.heap.size + 1 ≤ w1.heap.size := by have := k1.size; simpa using this
 · obtain ⟨te, ae, rfl⟩ := hev.shape
   have eL : E9 S bl key = [] := by unfold E9; rw [if_pos hbad]
   have eE : gz S = some true := by unfold gz; rw [if_pos hbad]
   rw [eL, eE] at hY
   have HL := hide eL
   have HE := hide eE
   have kB := ja.alloc w1 (.cells #[.slice none 0 0, .slice none 0 0] 323) (fun _ => False)
   have hJ1 := aJ _ _ _ _ (aJ _ _ _ _ hJ0 (cu kW (fun i _ h => .inl h))) (Qn kB)
   have hbd1 : ∀ i, C i → i < (w1.alloc (.cells #[.slice none 0 0, .slice none 0 0] 323)).heap.size := fun i h => by have := HBD.out i h; simp; omega
   obtain ⟨fn, tmps, assign, body, hy, hR⟩ := hY [] (ak, .iface te (.pointer (some ae))) C _ hJ1 hbd1 (.inr ⟨true, rfl, rfl, rfl, hev.same kB⟩)
   dsimp only [encI, ak] at hy
   have HR := hide hR
   have HDK := hide (D1.same kB)
   clear hR D1 eL eE hY
   gi_wp2
   refine ⟨fun h => by simp [Fence.wide] at h, HR.out.mono ?_⟩
   rintro e W3 ⟨C2, hs2, hb2, hk2, hor⟩
   have D3 := HDK.out.apart hk2 (fun i _ h => hCB i h)
   have hsub2 : ∀ i, C2 i → C i ∨ W.heap.size ≤ i := fun i h => by
     rcases hs2 i h with h | h
     · exact .inl h
     · simp at h
       exact .inr (by omega)
   rcases hor with ⟨rfl, hJ3⟩ | ⟨rfl, hJx3⟩
   · gi_wp2
     refine bodyPost_ret (results_none rfl _ _ _) rfl ?_
     exact ⟨C2, hsub2, hb2, ⟨_, rfl⟩, .inl ⟨_, ⟨D3, .inr ⟨true, _, HE.out, ⟨te, ae, rfl⟩, by rw [HL.out]; rfl⟩⟩, hJ3⟩⟩
   · gi_wp2
     refine bodyPost_ret (results_none rfl _ _ _) rfl ?_
     exact ⟨C2, hsub2, hb2, ⟨_, rfl⟩, .inr ⟨_, D3, hJx3⟩⟩
 · have eL : E9 S bl key = bl.flatten.filter (Ref.qh key) := by unfold E9; rw [if_neg (by rw [hbad]; decide)]
   have eE : gz S = none := by unfold gz; rw [if_neg (by rw [hbad]; decide)]
   rw [eL, eE] at hY
   have HL := hide eL
   have HE := hide eE
   have HY := hide hY
   clear eL eE hY
   obtain ⟨pr, cr, gr, capr, hrv, hrb⟩ := id hrun
   subst hrv
   have kQ := ja.alloc w1 (.cells #[.slice pr (Ref.Je bl).length cr, .slice (some ⟨gr, 0, none⟩) bl.length capr] 323) (fun _ => False)
   have hQ1 := jd w1 (.cells #[.slice pr (Ref.Je bl).length cr, .slice (some ⟨gr, 0, none⟩) bl.length capr] 323)
   have hQ0 := kQ.same (k1.same HBX.out (nT _ (Nat.le_refl _))) id
   have hRQ := hrun.keep kQ (fun _ _ => id)
   have DQ := D1.same kQ
   have hJQ := aJ _ _ _ _ (aJ _ _ _ _ hJ0 (cu kW (fun i _ h => .inl h))) (Qn kQ)
   have hszQ : (w1.alloc (.cells #[.slice pr (Ref.Je bl).length cr, .slice (some ⟨gr, 0, none⟩) bl.length capr] 323)).heap.size = w1.heap.size + 1 := by simp
   have hszA : (W.alloc (.cells #[.pointer (some ⟨d, 0, none⟩), jc nm, jc key] 293)).heap.size = W.heap.size + 1 := by simp
   rw [hszA] at hRQ
   have hseek := hRQ.jhr hlaid key
   obtain ⟨wQ, hwQ⟩ : ∃ wQ, wQ = w1.alloc (.cells #[.slice pr (Ref.Je bl).length cr, .slice (some ⟨gr, 0, none⟩) bl.length capr] 323) := ⟨_, rfl⟩
   rw [← hwQ] at hQ0 hQ1 hRQ DQ hJQ hszQ
   have box : ∀ w', ja wQ w' C → w'.cell? ⟨w1.heap.size, 0, none⟩ = some (.slice pr (Ref.Je bl).length cr) ∧ w'.cell? ⟨w1.heap.size, 1, none⟩ = some (.slice (some ⟨gr, 0, none⟩) bl.length capr) ∧ w'.cell? ⟨W.heap.size, 2, none⟩ = some (jc key) := by
     intro w' k
     have h1 := k.same hQ1 (fun h => by have := HBD.out _ h; omega)
     have h0 := k.same hQ0 (fun h => by have := HBD.out _ h; omega)
     exact ⟨(cell_of_heap h1).trans rfl, (cell_of_heap h1).trans rfl, (cell_of_heap h0).trans rfl⟩
   have runAt : ∀ w', ja wQ w' C → A9 w' (W.heap.size + 1) (Mv (.slice pr (Ref.Je bl).length cr) (.slice (some ⟨gr, 0, none⟩) bl.length capr)) bl := fun w' k => hRQ.keep k (fun i hi h => by have := HBD.out _ h; omega)
   have dkAt : ∀ w', ja wQ w' C → Dk E B w' ρ d (S.called false) := fun w' k => DQ.apart k (fun i _ h => hCB i h)
   have hb0 := box wQ (ja.refl _ _)
   rw [hwQ] at hb0
   obtain ⟨b0, b1, b2⟩ := hb0
   have HSK := hide hseek
   have HBOX := hide box
   have HRUN := hide runAt
   have HDK := hide dkAt
   clear hseek box runAt dkAt hQ0 hQ1 hRQ hrun hrb DQ hJ0
   gi_wp2_with fail
   refine ⟨trivial, fun h => (by simp [Fence.wide] at h), (callsIn_wide.2 HSK.out).mono ?_⟩
   rintro e w2 ⟨rfl, k2⟩
   rw [← hwQ] at k2
   have hJ2 := aJ _ _ _ _ hJQ (Qn k2)
   have hK2 : ja wQ w2 C := k2.mono (fun _ _ h => h.elim)
   have hsk : Ref.gy (Ref.jl 0 bl) key ≤ bl.length := by have := jfv (ps := Ref.jl 0 bl) key; rwa [Ref.xm] at this
   have hd0 := Sv hlaid key
   have hnb := hlaid.small.2
   have HD0 := hide hd0
   have HWQ := hide hwQ
   clear hd0 hwQ
   gi_wp2
   gi_loopw [6] (fun iv wr => ∃ (i : Nat) (C' : Nat → Prop), i ≤ bl.length ∧ iv = j4 i ∧ J ((Zm bl key i).map Jd) C' wr ∧ (∀ x, C' x → C x ∨ wQ.heap.size ≤ x) ∧ (∀ x, C' x → x < wr.heap.size) ∧ ja wQ wr C)
     (fun iv _ => bl.length - (intOf iv).toNat)
   case atStart => exact ⟨_, C, hsk, rfl, by rw [HD0.out]; exact hJ2, fun _ h => .inl h, fun x h => by have := HBD.out x h; have := k2.size; omega, hK2⟩
   case round =>
     obtain ⟨i, C', hi, rfl, hJs, hsub, hbd', hkw⟩ := hrel
     obtain ⟨b0, b1, b2⟩ := HBOX.out wr hkw
     gi_wp2_with fail
     refine ⟨trivial, fun h => (by simp [Fence.wide] at h), (callsIn_wide.2 (HRUN.out wr hkw).count).mono ?_⟩
     rintro e w3 ⟨rfl, k3⟩
     have hK3 : ja wQ w3 C := hkw.trans k3 (fun _ _ h => h.elim)
     have hJ3 := aJ _ _ _ _ hJs (Qn k3)
     rcases Nat.lt_or_ge i bl.length with hlt | hge
     · obtain ⟨b, hb⟩ : ∃ b, bl[i]? = some b := ⟨_, List.getElem?_eq_getElem hlt⟩
       have hB3 : B ≤ w3.heap.size := (HDK.out _ hK3).size
       have hblk := (HRUN.out _ hK3).block hlaid hsz (HDK.out _ hK3).sent hB3 hb
       obtain ⟨b0', b1', b2'⟩ := HBOX.out w3 hK3
       have hblen := hlaid.len b (List.mem_of_getElem? hb)
       have HBLK := hide hblk
       have HB := hide hb
       have hlti : (i : Int) < (bl.length : Int) := by omega
       clear hblk hb
       gi_wp2_with fail
       refine ⟨trivial, fun h => (by simp [Fence.wide] at h), (callsIn_wide.2 HBLK.out).mono ?_⟩
       rintro e w4 ⟨v, rfl, hown, k4⟩
       have hK4 : ja wQ w4 C := hK3.trans k4 (fun _ _ h => h.elim)
       have hJ4 := aJ _ _ _ _ hJ3 (Qn k4)
       have hch := Jk hown
       obtain ⟨pv, cv, rfl⟩ := jh hown
       have hvblk : ∀ ad, pv = some ad → w3.heap.size ≤ ad.block ∧ ad.block < w4.heap.size := fun ad e => hown.lt ad.block (by rw [e]; rfl)
       have hC3 : ∀ x, C' x → x < w3.heap.size := fun x h => by have := hbd' x h; have := k3.size; omega
       have HCH := hide hch
       have HVB := hide hvblk
       have hs34 := k4.size
       have hsQ3 := hK3.size
       have hJ4' : J ((Zm bl key i ++ (b.take 0).filter (Ref.qh key)).map Jd) C' w4 := by simpa using hJ4
       clear hown hch hvblk hJ4
       gi_wp2
       gi_loopw [49] (fun jv wr => ∃ (j : Nat) (D' : Nat → Prop), j ≤ b.length ∧ jv = j4 j ∧ J ((Zm bl key i ++ (b.take j).filter (Ref.qh key)).map Jd) D' wr ∧ (∀ x, D' x → C' x ∨ w4.heap.size ≤ x) ∧ (∀ x, D' x → x < wr.heap.size) ∧ ja w4 wr C')
         (fun jv _ => b.length - (intOf jv).toNat)
       case atStart => exact ⟨0, C', Nat.zero_le _, rfl, hJ4', fun _ h => .inl h, fun x h => by have := hC3 x h; omega, ja.refl _ _⟩
       case round =>
         obtain ⟨j, D', hj, rfl, hJi, hsubi, hbdi, hkwi⟩ := hrel
         have hKi : ja wQ wr C := hK4.trans hkwi (fun x hx h => (hsub x h).resolve_right (by omega))
         have hsub3 : ∀ x, D' x → C x ∨ wQ.heap.size ≤ x := fun x h => by
           rcases hsubi x h with h | h
           · exact hsub x h
           · have := hK4.size
             exact .inr (by omega)
         have hch' : Chs wr (.slice pv b.length cv) b := HCH.out.keep hkwi (fun _ p' n c e h => by
           injection e with e
           have := (HVB.out p' e).1
           have := hC3 _ h
           omega)
         have hs4 := hkwi.size
         rcases Nat.lt_or_ge j b.length with hlt2 | hge2
         · obtain ⟨bb, oo, rfl, e0, e1, e2⟩ := hch'.at hlt2
           generalize hx : b[j] = x at e0 e1 e2
           obtain ⟨ck, cv', cg⟩ := x
           simp only at e0 e1 e2
           have hkx : b[j]? = some ⟨ck, cv', cg⟩ := by rw [List.getElem?_eq_getElem hlt2, hx]
           have ka := ja.alloc wr (.cells #[jc ck, jc cv', .bool cg] 88) (fun _ => False)
           have hKa : ja wQ (wr.alloc (.cells #[jc ck, jc cv', .bool cg] 88)) C := hKi.trans ka (fun _ _ h => h.elim)
           obtain ⟨_, _, m2⟩ := HBOX.out _ hKa
           have hta := jd wr (.cells #[jc ck, jc cv', .bool cg] 88)
           have y0 := cell_of_heap (o := 0) hta
           have y1 := cell_of_heap (o := 1) hta
           have y2 := cell_of_heap (o := 2) hta
           simp at y0 y1 y2
           have hJa := aJ _ _ _ _ hJi (Qn ka)
           have hbda : ∀ x, D' x → x < (wr.alloc (.cells #[jc ck, jc cv', .bool cg] 88)).heap.size := fun x h => Nat.lt_of_lt_of_le (hbdi x h) ka.size
           have htk : (b.take (j + 1)).filter (Ref.qh key) = (b.take j).filter (Ref.qh key) ++ (if Ref.qh key ⟨ck, cv', cg⟩ = true then [⟨ck, cv', cg⟩] else []) := by
             rw [List.take_add_one, hkx, Option.toList_some, List.filter_append]
             by_cases h9 : Ref.qh key ⟨ck, cv', cg⟩ = true <;> simp [h9]
           have hka2 : ja w4 (wr.alloc (.cells #[jc ck, jc cv', .bool cg] 88)) C' := hkwi.trans ka (fun _ _ h => h.elim)
           have hlt2i : (j : Int) < (b.length : Int) := by omega
           by_cases hb5 : ck < key
           · have hnb5 : Ref.qh key ⟨ck, cv', cg⟩ = false := by simp [Ref.qh, hb5]
             have hBL : Op.bytesLess ck key = true := by rw [bytesLess_eq]; simpa using hb5
             rw [hnb5, if_neg (by decide), List.append_nil] at htk
             have HTK := hide htk
             have HKX := hide hkx
             clear htk hkx hb5 hnb5 hx hta
             gi_wp2
             refine ⟨fun f h => (by cases h), ?_⟩
             gi_wp2
             go_roundw
             case rel => exact ⟨j + 1, D', hlt2, by simp, by rw [HTK.out]; exact hJa, hsubi, hbda, hka2⟩
             case measure => simp [intOf]; omega
           · have hnb5 : Ref.qh key ⟨ck, cv', cg⟩ = true := by simp [Ref.qh, hb5]
             have hBL : Op.bytesLess ck key = false := by rw [bytesLess_eq]; simpa using hb5
             rw [hnb5, if_pos rfl] at htk
             obtain ⟨hp1, hp2⟩ := jgb HB.out hkx hnb5
             obtain ⟨fn, tmps, assign, body, hy, hR⟩ := HY.out ((Zm bl key i ++ (b.take j).filter (Ref.qh key)).map Jd) (Jd ⟨ck, cv', cg⟩) D' _ hJa hbda (.inl ⟨_, _, congrArg (List.map Jd) hp1, hp2, rfl⟩)
             dsimp only [encI, Jd] at hy
             have HR := hide hR
             have HTK := hide htk
             clear hR htk hp1 hp2 hkx hb5 hnb5 hx hta
             gi_wp2
             refine ⟨fun h => by simp [Fence.wide] at h, HR.out.mono ?_⟩
             rintro e W3 ⟨C2, hs2, hb2, hk2, hor⟩
             have hsub4 : ∀ x, C2 x → C' x ∨ w4.heap.size ≤ x := fun x h => by
               rcases hs2 x h with h | h
               · exact hsubi x h
               · simp at h
                 exact .inr (by omega)
             have hk4 : ja w4 W3 C' := hka2.trans hk2 (fun x hx h => (hsubi x h).resolve_right (by omega))
             have hKW3 : ja wQ W3 C := hKa.trans hk2 (fun x hx h => (hsub3 x h).resolve_right (by omega))
             rcases hor with ⟨rfl, hJ5⟩ | ⟨rfl, hJx5⟩
             · gi_wp2
               go_roundw
               case rel =>
                 refine ⟨j + 1, C2, hlt2, by simp, ?_, hsub4, hb2, hk4⟩
                 rw [HTK.out, ← List.append_assoc, List.map_append]
                 exact hJ5
               case measure => simp [intOf]; omega
             · gi_wp2
               refine bodyPost_ret (results_none rfl _ _ _) rfl ?_
               refine ⟨C2, fun x h => ?_, hb2, ⟨_, rfl⟩, .inr ⟨_, HDK.out _ hKW3, hJx5⟩⟩
               rcases hsub4 x h with h | h
               · exact (hsub x h).imp id (fun h => by omega)
               · have := hK4.size
                 exact .inr (by omega)
         · obtain rfl : j = b.length := by omega
           rw [List.take_length, ← Vo HB.out] at hJi
           gi_wp2
           go_roundw
           case rel => exact ⟨i + 1, D', hlt, by simp, hJi, hsub3, hbdi, hKi⟩
           case measure => simp [intOf]; omega
     · obtain rfl : i = bl.length := by omega
       gi_wp2
       go_end0
       refine ⟨C', fun x h => (hsub x h).imp id (fun h => by omega), fun x h => by have := hbd' x h; have := k3.size; omega, ⟨_, rfl⟩, .inl ⟨_, ⟨HDK.out _ hK3, .inl ⟨HE.out, by rw [HL.out]⟩⟩, ?_⟩⟩
       rw [jap (Nat.le_refl _)] at hJ3
       exact hJ3
end Go.Proofs.YtnipbplghijdmaaGreatDoor
namespace Go.Proofs.YtnipbplghijdmaaGreatDoor
open Go.RowKit Go.Maps Go.WideShapes
set_option linter.unusedVariables false
def Yc (l : List Ref.Ch) : Jz := fun S => (S, l, none)
def l7 (bl : List (List Ref.Ch)) (key : Str) : Jz := fun S => (S.called false, E9 S bl key, gz S)
theorem jeh {P : je → Prop} {E : Nat → Addr} {B : Nat} {ρ : Nat → jw} {d : Nat} {w : World} {v : Value} {l : List Ref.Ch} (hch : Chs w v l) (hl : l.length < 1048576) (hv : ∀ p n c, v = .slice (some p) n c → ¬ j6 ρ p.block ∧ p.block < w.heap.size) (hBw : B ≤ w.heap.size) : ky P E B ρ d w (Fp v) (Yc l) := by
 intro hi W S k D Z
 refine ⟨Z, hl, ?_⟩
 have hch' : Chs W v l := hch.keep k (fun _ p n c e => (hv p n c e).1)
 refine Cz (Needs := jbj B v) (Start := fun W => Chs W v l ∧ Dk E B W ρ d S) bu (fun n => az v l hl) (fun i hi => ?_) (fun W' k' => ⟨hch'.same k', D.same k'⟩) D.rep.lt D.size hi hl
 rcases hi with h | ⟨p, n, c, e, rfl⟩
 · have := D.size
   omega
 · exact Nat.lt_of_lt_of_le (hv p n c e).2 k.size
theorem jdr {P : je → Prop} {E : Nat → Addr} {B : Nat} {ρ : Nat → jw} {d : Nat} {w : World} {m : Nat} {key : Str} {bl : List (List Ref.Ch)} (hm : m ≤ 9223372036854775807) (hsz : (Ref.Je bl).length < 1099511627776) (hlen : bl.flatten.length < 1048576) (hP : ∀ S, P S → P (S.called false) ∧ Small S ∧ Ew S (jq m) bl) : ky P E B ρ d w (Xz d m key) (l7 bl key) := by
 intro hi W S k D Z
 obtain ⟨h1, h2, h3⟩ := hP S Z
 have hl2 : (E9 S bl key).length < 1048576 := by
   unfold E9
   split
   · simp
   · have := List.length_filter_le (Ref.qh key) bl.flatten
     omega
 refine ⟨h1, hl2, ?_⟩
 have hn : (jq m).length < 1099511627776 := by
   have := Jf hm
   unfold jq
   rw [List.length_append]
   simp
   omega
 exact Cz (Needs := fun i => i < B) (Start := jay E B ρ d S (jq m) bl) Cn (fun n => Bv (jq m) key bl hn hsz) (fun i hi => Nat.lt_of_lt_of_le hi D.size) (fun W' k' => ⟨D.same k', h2, h3⟩) D.rep.lt D.size hi hl2
structure cz (P : je → Prop) (ns : List Nat) (bls : List (List (List Ref.Ch))) : Prop where
 len : bls.length = ns.length
 num : ∀ n ∈ ns, n ≤ 9223372036854775807
 small : ∀ bl ∈ bls, (Ref.Je bl).length < 1099511627776 ∧ bl.flatten.length < 1048576 ∧ Ref.Laid bl
 file : ∀ (k n : Nat) bl, ns[k]? = some n → bls[k]? = some bl → ∀ S, P S → Ew S (jq n) bl
 step : ∀ S, P S → P (S.called false) ∧ Small S
abbrev y7 (bls : List (List (List Ref.Ch))) (key : Str) : List Jz := bls.map (fun bl => l7 bl key)
theorem cz.layers {P : je → Prop} {ns : List Nat} {bls : List (List (List Ref.Ch))} (h : cz P ns bls) {E : Nat → Addr} {B : Nat} {ρ : Nat → jw} {d : Nat} {w : World} (key : Str) :
   ∀ (k : Nat) f st, (ns.map (fun n => Xz d n key))[k]? = some f → (y7 bls key)[k]? = some st → ky P E B ρ d w f st := by
 intro k f st hf hst
 rw [List.getElem?_map] at hf hst
 cases hn : ns[k]? with
 | none => rw [hn] at hf; cases hf
 | some n =>
   cases hb : bls[k]? with
   | none => rw [hb] at hst; cases hst
   | some bl =>
     rw [hn] at hf
     rw [hb] at hst
     cases hf
     cases hst
     have h1 := h.small bl (List.mem_of_getElem? hb)
     exact jdr (h.num n (List.mem_of_getElem? hn)) h1.1 h1.2.1 (fun S hS => ⟨(h.step S hS).1, (h.step S hS).2, h.file k n bl hn hb S hS⟩)
def oh (l : List Ref.Ch) : Prop := Ref.ji l ∧ (∀ c ∈ l, c.key ≠ []) ∧ l.length < 1048576
theorem oh.up {l : List Ref.Ch} (h : oh l) (hi : Str) : oh (upTo hi l) := by
 have hs : (upTo hi l).Sublist l := List.takeWhile_sublist _
 exact ⟨h.1.sublist hs, fun c hc => h.2.1 c (hs.subset hc), Nat.lt_of_le_of_lt hs.length_le h.2.2⟩
theorem Ci {hi : Str} {sts : List Jz} (h : ∀ st ∈ sts, ∀ S, oh (st S).2.1) : ∀ {S : je} {ls : List (List Ref.Ch)}, (gathered hi sts S).2 = .inl ls → ∀ l ∈ ls, oh l := by
 induction sts with
 | nil =>
   intro S ls e l hl
   cases e
   cases hl
 | cons st r ih =>
   intro S ls e l hl
   unfold gathered at e
   cases hg : Zb hi (st S) with
   | none => rw [hg] at e; cases e
   | some x =>
     rw [hg] at e
     simp only at e
     cases hr : gathered hi r (st S).1 with
     | mk S2 q =>
       rw [hr] at e
       cases q with
       | inr b => cases e
       | inl ls2 =>
         cases e
         rcases List.mem_cons.1 hl with rfl | hl
         · unfold Zb at hg
           split at hg
           · cases hg
             exact (h st List.mem_cons_self S).up hi
           · cases hg
         · exact ih (fun st' h' => h st' (List.mem_cons_of_mem _ h')) (by rw [hr]) l hl
theorem Dg.of {ls : List (List Ref.Ch)} (h : ∀ l ∈ ls, oh l) : Dg ls := ⟨fun l hl => (h l hl).1, fun l hl => (h l hl).2.1, fun l hl => (h l hl).2.2⟩
theorem jdq {bl : List (List Ref.Ch)} (h : Ref.Laid bl) (hl : bl.flatten.length < 1048576) (key : Str) (S : je) : oh (l7 bl key S).2.1 := by
 show oh (E9 S bl key)
 unfold E9
 split
 · exact ⟨List.Pairwise.nil, ⟨fun c hc => (by cases hc), Nat.zero_lt_succ _⟩⟩
 · have hs : (bl.flatten.filter (Ref.qh key)).Sublist bl.flatten := List.filter_sublist
   refine ⟨h.rising.sublist hs, fun c hc => ?_, Nat.lt_of_le_of_lt hs.length_le hl⟩
   obtain ⟨b, hb, hcb⟩ := List.mem_flatten.1 (hs.subset hc)
   have := (Ref.Jo c).1 (h.ok b hb c hcb)
   intro e
   rw [e] at this
   simp at this
theorem cz.good {P : je → Prop} {ns : List Nat} {bls : List (List (List Ref.Ch))} (h : cz P ns bls) (key : Str) : ∀ st ∈ y7 bls key, ∀ S, oh (st S).2.1 := by
 intro st hst S
 obtain ⟨bl, hb, rfl⟩ := List.mem_map.1 hst
 exact jdq (h.small bl hb).2.2 (h.small bl hb).2.1 key S
set_option maxRecDepth 100000 in
theorem Oq (p : Option Addr) (m c : Nat) (hi : Str) (w : World) : Calls Tryz.prog 71 #[.slice p m c, jc hi] w fun e w' => e = .returned (.func (.func 123) #[.agg #[.slice p m c, jc hi]] #[]) ∧ w' = w := by
 go_enter Tryz.func71, Tryz.ntmps71
 go_wp2
 go_ret
 exact ⟨rfl, rfl⟩
end Go.Proofs.YtnipbplghijdmaaGreatDoor
namespace Go.Proofs.YtnipbplghijdmaaGreatDoor
open Go.RowKit Go.Maps Go.WideShapes Go.Shelf
set_option linter.unusedVariables false
attribute [local go_sem] Oper.semAt_some
def stays (c : Ref.Ch) : Bool := !c.gone
def kept (l : List Ref.Ch) : List Ref.Ch := l.filter stays
theorem Ow {l : List Ref.Ch} {m : Nat} {c : Ref.Ch} (h : l[m]? = some c) : kept (l.take (m + 1)) = kept (l.take m) ++ (if c.gone = true then [] else [c]) := by
 unfold kept
 rw [List.take_add_one, h, Option.toList_some, List.filter_append]
 by_cases hc : c.gone = true <;> simp [stays, hc]
theorem Gm (l : List Ref.Ch) (m : Nat) : (kept (l.take m)).length ≤ m := by
 have h1 := List.length_filter_le stays (l.take m)
 have h2 := List.length_take_le m l
 unfold kept
 omega
def Vz (E : Nat → Addr) (B : Nat) (ρ : Nat → jw) (d : Nat) (S' : je) (l : List Ref.Ch) (err : Option Bool) (w : World) (e : Ending) (w' : World) : Prop :=
 ∃ v ev, e = .returned (.tuple #[v, ev]) ∧ ja w w' (j6 ρ) ∧ Dk E B w' ρ d S' ∧
 ((ev = .nilIface ∧ err = none ∧ w'.ownsRow w.heap.size 88 3 v (kept l).length (jg (kept l))) ∨ (∃ bad, err = some bad ∧ v = .slice none 0 0 ∧ ve E w' ev bad))
set_option maxRecDepth 100000 in
set_option maxHeartbeats 4000000 in
theorem jen {P : je → Prop} {E : Nat → Addr} {B : Nat} {ρ : Nat → jw} {d : Nat} {S : je} {w : World} {b : Nat} {t : TypeId} (m0 : Ref.Man) (rv last mv : Value) (deg cl : Bool) (bls : List (List (List Ref.Ch))) (H : Env E B w) (D : Dk E B w ρ d S) (Z : P S) (R : cz P m0.settled bls)
   (hb : w.heap[b]? = some (.cells (yl (.pointer (some ⟨d, 0, none⟩)) (jf m0.next) (jf m0.last) (jf m0.log) (jf m0.base) rv last mv deg cl) t (0, 0))) (hv : J2 w rv m0.runs) (hl : m0.runs.length < 262144)
   (hll : (Q6 (gathered [] (y7 bls []) S)).length < 1048576) :
   Calls Tryz.prog 119 #[.pointer (some ⟨b, 0, none⟩)] w (Vz E B ρ d (gathered [] (y7 bls []) S).1 (Q6 (gathered [] (y7 bls []) S)) (Hr (gathered [] (y7 bls []) S)) w) := by
 have hsl := ym m0
 have kA : ja w (((w.alloc (.cells #[.slice none 0 0] 38)).alloc (.cells #[.nilIface] 128)).alloc (.cells #[.slice none 0 0] 38)) (fun _ => False) := ((ja.alloc w _ _).more _).more _
 have hset := Yo d m0 rv last mv deg cl [] (H.same kA) (kA.same hb id) (hv.same kA) (by omega) R.num
 have hgood : ∀ ls, (gathered [] (y7 bls []) S).2 = .inl ls → Dg ls := fun ls e => Dg.of (Ci (R.good []) e)
 have hlen : (m0.settled.map (fun n => Xz d n [])).length = (y7 bls []).length := by simp [R.len]
 have hlen2 : (m0.settled.map (fun n => Xz d n [])).length = m0.settled.length := by simp
 have hfun : ∀ f ∈ m0.settled.map (fun n => Xz d n []), ∃ g a b, f = .func g a b := by
   intro f hf
   obtain ⟨n, _, rfl⟩ := List.mem_map.1 hf
   exact ⟨_, _, _, rfl⟩
 have HLAY : Hid (∀ (W : World) (k : Nat) f st, (m0.settled.map (fun n => Xz d n []))[k]? = some f → (y7 bls [])[k]? = some st → ky P E B ρ d W f st) := fun W => R.layers []
 have hρ := D.rep.lt
 have hB := D.size
 obtain ⟨fs, hfs⟩ : ∃ fs, fs = m0.settled.map (fun n => Xz d n []) := ⟨_, rfl⟩
 obtain ⟨ns, hns⟩ : ∃ ns, ns = m0.settled.length := ⟨_, rfl⟩
 rw [← hfs] at hset hlen hlen2 hfun HLAY
 rw [← hns] at hset hlen2 hsl
 have hmg := fun (lv : Value) (n : Nat) => mi (P := P) (E := E) (B := B) (ρ := ρ) (d := d) (n := n) lv fs (y7 bls []) [] hlen (by omega) hfun hgood
 generalize gathered [] (y7 bls []) S = G at hmg hll ⊢
 generalize Q6 G = l at hmg hll ⊢
 generalize Hr G = err at hmg ⊢
 generalize G.1 = S' at hmg ⊢
 have HMG := hide hmg
 have HSET := hide hset
 have HB := hide hb
 have HFS := hide hfs
 clear hmg hset hb hfs hns hgood hlen hfun
 refine (callsIn_wide (n := 9)).1 ?_
 refine callsIn_of_wp_marks Tryz.func119 rfl trivial ?_ rfl
 simp only [Tryz.ntmps119, List.size_toArray, List.length_cons, List.length_nil, Nat.reduceAdd, Nat.reduceSub, Array.replicate_succ, Array.replicate_zero, List.push_toArray, List.append_toArray, List.nil_append, List.cons_append]
 gi_wp2_with fail
 refine ⟨trivial, (callsIn_wide.2 HSET.out).mono ?_⟩
 rintro e W0 ⟨lp0, lc0, rfl, hown0, kS⟩
 gi_wp2_with fail
 refine ⟨trivial, (callsIn_wide.2 (Oq lp0 ns lc0 [] W0)).mono ?_⟩
 rintro e W0' ⟨rfl, rfl⟩
 gi_wp2
 have kW : ja w W0' (fun _ => False) := kA.trans kS (fun _ _ h => h)
 have sA : (((w.alloc (.cells #[.slice none 0 0] 38)).alloc (.cells #[.nilIface] 128)).alloc (.cells #[.slice none 0 0] 38)).heap.size = w.heap.size + 1 + 1 + 1 := by simp
 have sW : w.heap.size + 1 + 1 + 1 ≤ W0'.heap.size := by have := kS.size; omega
 have b0 : W0'.heap[w.heap.size]? = some (.cells #[.slice none 0 0] 38 (0, 0)) :=
   kS.same ((((ja.alloc _ _ (fun _ => False)).more _)).same (jd w _) id) id
 have b1 : W0'.heap[w.heap.size + 1]? = some (.cells #[.nilIface] 128 (0, 0)) := by
   have := jd (w.alloc (.cells #[.slice none 0 0] 38)) (.cells #[.nilIface] 128)
   rw [World.size_alloc] at this
   exact kS.same ((ja.alloc _ _ (fun _ => False)).same this id) id
 have b2 : W0'.heap[w.heap.size + 1 + 1]? = some (.cells #[.slice none 0 0] 38 (0, 0)) := by
   have := jd ((w.alloc (.cells #[.slice none 0 0] 38)).alloc (.cells #[.nilIface] 128)) (.cells #[.slice none 0 0] 38)
   rw [World.size_alloc, World.size_alloc] at this
   exact kS.same this id
 have nT : ∀ i, w.heap.size ≤ i → ¬ j6 ρ i := fun i hi h => by have := hρ i h; omega
 have hvals : nz W0' (.slice lp0 ns lc0) fs := by
   subst hlen2
   exact dx hown0 rfl
 have hoff : fs ≠ [] → ∀ p n c, Value.slice lp0 ns lc0 = .slice (some p) n c → ¬ j6 ρ p.block := by
   intro _ p n c e
   injection e with e
   have := (hown0.lt p.block (by rw [e]; rfl)).1
   exact nT _ (by omega)
 have hstartM : ∀ W1, ja W0' W1 (fun _ => False) → F8 P E B ρ d S (.slice lp0 ns lc0) fs (y7 bls []) W1 := fun W1 k => ⟨D.same (kW.trans k (fun _ _ h => h)), Z, hvals.same k, hoff, HLAY.out W1⟩
 have HSM := hide hstartM
 clear hstartM hvals hoff hown0
 have leave : ∀ {W : World} {D : Nat} {v : Value}, err = none → W0'.heap.size ≤ D → ¬ v.ownBlock = some D → W.heap[D]? = some (.deferred (some [])) → Dk E B W ρ d S' →
     W.heap[w.heap.size]? = some (.cells #[.slice none 0 0] 38 (0, 0)) → W.heap[w.heap.size + 1]? = some (.cells #[.nilIface] 128 (0, 0)) → W.ownsRow w.heap.size 88 3 v (kept l).length (jg (kept l)) → (∀ g, v.ownBlock = some g → w.heap.size + 3 ≤ g) → ja w W (j6 ρ) →
     (((W.setCell ⟨w.heap.size, 0, none⟩ v).setCell ⟨w.heap.size + 1, 0, none⟩ .nilIface)).heap[D]? = some (.deferred (some [])) ∧
     ((((W.setCell ⟨w.heap.size, 0, none⟩ v).setCell ⟨w.heap.size + 1, 0, none⟩ .nilIface)).putObj D (.deferred none)).cell? ⟨w.heap.size, 0, none⟩ = some v ∧
     ((((W.setCell ⟨w.heap.size, 0, none⟩ v).setCell ⟨w.heap.size + 1, 0, none⟩ .nilIface)).putObj D (.deferred none)).cell? ⟨w.heap.size + 1, 0, none⟩ = some .nilIface ∧
     Vz E B ρ d S' l err w (.returned (.tuple #[v, .nilIface])) ((((W.setCell ⟨w.heap.size, 0, none⟩ v).setCell ⟨w.heap.size + 1, 0, none⟩ .nilIface)).putObj D (.deferred none)) := by
   intro W D v h1 hD hnd hK DK g1 g2 hrow hown hkw
   have k1 := ja.setCell W ⟨w.heap.size, 0, none⟩ v
   have k2 := ja.setCell (W.setCell ⟨w.heap.size, 0, none⟩ v) ⟨w.heap.size + 1, 0, none⟩ .nilIface
   have k3 := ja.putObj ((W.setCell ⟨w.heap.size, 0, none⟩ v).setCell ⟨w.heap.size + 1, 0, none⟩ .nilIface) D (.deferred none)
   have kk : ja W ((((W.setCell ⟨w.heap.size, 0, none⟩ v).setCell ⟨w.heap.size + 1, 0, none⟩ .nilIface)).putObj D (.deferred none)) (fun i => i = w.heap.size ∨ i = w.heap.size + 1 ∨ i = D) :=
     ((k1.mono (fun _ _ h => .inl h)).trans k2 (fun _ _ h => .inr (.inl h))).trans k3 (fun _ _ h => .inr (.inr h))
   have e1 := k2.same (jb (o := 0) g1 v) (by simp)
   have e2 := jb (o := 0) (k1.same g2 (by simp)) Value.nilIface
   refine ⟨k2.same (k1.same hK (by simp; omega)) (by simp; omega), (cell_of_heap (k3.same e1 (by omega))).trans rfl, (cell_of_heap (k3.same e2 (by omega))).trans rfl, _, _, rfl, hkw.trans kk (fun i hi h => by omega), ?_, .inl ⟨rfl, h1, ?_⟩⟩
   · refine DK.apart kk (fun i hi h => ?_)
     rcases h with h | h | h
     · exact ⟨nT i (by omega), by omega⟩
     · exact ⟨nT i (by omega), by omega⟩
     · exact ⟨nT i (by omega), by omega⟩
   · refine kk.row hrow (fun g hg h => ?_)
     have := hown g hg
     rcases h with h | h | h
     · omega
     · omega
     · exact hnd (h ▸ hg)
 refine Z7 rfl (by decide) (gf := 123) (rv := #[.agg #[.slice lp0 ns lc0, jc []]]) (lb := #[]) rfl trivial ni (HMG.out _ 8) (fun _ => rfl) (fun i h => by have := hρ i h; omega) (fun i h => by omega) HSM.out
   (fun pre C W => ∃ (m : Nat) (v : Value), pre = (l.take m).map Jd ∧ m ≤ l.length ∧ W.heap[w.heap.size]? = some (.cells #[.slice none 0 0] 38 (0, 0)) ∧
     W.heap[w.heap.size + 1]? = some (.cells #[.nilIface] 128 (0, 0)) ∧ W.heap[w.heap.size + 1 + 1]? = some (.cells #[v] 38 (0, 0)) ∧ W.ownsRow w.heap.size 88 3 v (kept (l.take m)).length (jg (kept (l.take m))) ∧ (∀ g, v.ownBlock = some g → w.heap.size + 3 ≤ g) ∧
     ja w W (j6 ρ) ∧ (∀ i, C i ↔ i = w.heap.size ∨ i = w.heap.size + 1 ∨ i = w.heap.size + 1 + 1 ∨ v.ownBlock = some i))
   (fun c pre C W => (c = .ret ∧ ∃ bad ev, err = some bad ∧ ve E W ev bad ∧ W.heap[w.heap.size]? = some (.cells #[.slice none 0 0] 38 (0, 0)) ∧ W.heap[w.heap.size + 1]? = some (.cells #[ev] 128 (0, 0)) ∧ ja w W (j6 ρ)))
   ?hI ?hIx (fun i => i = w.heap.size ∨ i = w.heap.size + 1 ∨ i = w.heap.size + 1 + 1) ?hC0 ?h0 ?round ?done ?stop
 case hI =>
   rintro pre C A B' ⟨m, v, e, hm, g1, g2, g3, hrow, hown, hkw, hC⟩ hk
   have out : ∀ i, w.heap.size ≤ i → (i < w.heap.size + 3 ∨ v.ownBlock = some i) → ¬ (j6 ρ i ∨ (W0'.heap.size ≤ i ∧ ¬ C i)) := by
     rintro i h1 h2 (h3 | ⟨h3, h4⟩)
     · exact nT i h1 h3
     · rcases h2 with h2 | h2
       · omega
       · exact h4 ((hC i).2 (.inr (.inr (.inr h2))))
   refine ⟨m, v, e, hm, ja.same hk g1 (out _ (by omega) (.inl (by omega))), ja.same hk g2 (out _ (by omega) (.inl (by omega))), ja.same hk g3 (out _ (by omega) (.inl (by omega))),
     ja.row hk hrow (fun g hg => out g (by have := hown g hg; omega) (.inr hg)), hown, hkw.trans hk (fun i hi h => ?_), hC⟩
   rcases h with h | ⟨h, _⟩
   · exact h
   · omega
 case hIx =>
   rintro c pre C A B' lp r ⟨rfl, bad, ev, h1, h3, h4, h5, h6⟩ hlp hnc hr hk
   have hne : ∀ i, i < w.heap.size + 3 → ¬ i = lp := fun i hi => by omega
   refine ⟨rfl, bad, ev, h1, ?_, hk.same h4 (hne _ (by omega)), hk.same h5 (hne _ (by omega)), h6.trans hk (fun i hi e => by omega)⟩
   obtain ⟨g, he, hg⟩ := h3
   exact ⟨g, he.keep hk (fun i c e hc => by rw [e, hr] at hc; cases hc), hg⟩
 case hC0 =>
   rintro i (h | h | h)
   all_goals exact ⟨by omega, nT i (by omega), fun h => by omega⟩
 case h0 => exact ⟨0, .slice none 0 0, rfl, Nat.zero_le _, b0, b1, b2, World.ownsRow_nil _ _ _ _, fun g hg => (by cases hg), kW.mono (fun _ _ h => h.elim), fun i => by simp [Value.ownBlock]⟩
 case round =>
   rintro lp pre x C W hlp ⟨rl, hrl⟩ hnl hbd ⟨m, v, rfl, hm, g1, g2, g3, hrow, hown, hkw, hC⟩ hcan
   have hlt := lt_of_heap hrl
   rcases hcan with ⟨k, c, e, hk, rfl⟩ | ⟨bad, he, e, hx1, hx2⟩
   · have hk2 := (List.getElem?_eq_some_iff.1 hk).1
     obtain rfl : m = k := by
       have := congrArg List.length e
       simp at this
       omega
     clear e
     obtain ⟨ck, cv, cg⟩ := c
     dsimp only [encI, Jd]
     gi_wp2
     refine ⟨ja.alloc W _ _, ?_⟩
     intro W2 k2 _
     have ka : ja W W2 (fun i => i = lp) := ((ja.alloc W _ (fun _ => False)).mono (fun _ _ h => h.elim)).trans k2 (fun _ _ h => h)
     have hne : ∀ i, i < w.heap.size + 3 → ¬ i = lp := fun i hi => by omega
     have hb := k2.same (jd W _) (by omega)
     have q0 := cell_of_heap (o := 0) hb
     have q1 := cell_of_heap (o := 1) hb
     have q2 := cell_of_heap (o := 2) hb
     have g1' := ka.same g1 (hne _ (by omega))
     have g2' := ka.same g2 (hne _ (by omega))
     have g3' := ka.same g3 (hne _ (by omega))
     have a3 := cell_of_heap (o := 0) g3'
     have f3 := frozen_of_heap (o := 0) g3'
     simp at q0 q1 q2 a3
     have hrow' := ka.row hrow (fun g hg e => hnl ((hC lp).2 (.inr (.inr (.inr (e ▸ hg))))))
     have hHC := hide hC
     have hkw' : ja w W2 (j6 ρ) := hkw.trans ka (fun i hi e => by omega)
     have HG1 := hide g1'
     have HG2 := hide g2'
     have HG3 := hide g3'
     clear g1 g2 g3 g1' g2' g3' hb hC
     have hsW : W.heap.size + 1 ≤ W2.heap.size := by have := k2.size; simpa using this
     have hkp := Ow hk
     have hkl := Gm l m
     have e1 : (l.take m).map Jd ++ [Jd ⟨ck, cv, cg⟩] = (l.take (m + 1)).map Jd := (lh hk).symm
     have E1 := hide e1
     clear e1
     cases cg with
     | true =>
       simp only [if_true, List.append_nil] at hkp
       have HKP := hide hkp
       clear hkp
       gi_wp2
       refine ⟨C, fun i h => .inl h, fun i h => Nat.lt_of_lt_of_le (hbd i h) (by omega), ja.refl _ _, m + 1, v, E1.out, hk2, HG1.out, HG2.out, HG3.out, by rw [HKP.out]; exact hrow', hown, hkw', hHC.out⟩
     | false =>
       rw [if_neg (by simp)] at hkp
       obtain ⟨pv, cpv, rfl⟩ := jh hrow'
       obtain ⟨q, hq⟩ : ∃ q, q = (kept (l.take m)).length := ⟨_, rfl⟩
       obtain ⟨L, hL⟩ : ∃ L, L = kept (l.take m) := ⟨_, rfl⟩
       rw [← hL] at hq hrow' hkp hkl hrow hown hHC a3 HG3
       rw [← hq] at hrow' hkl hown hHC a3 HG3
       have fin : ∀ (p3 : Option Addr) (cp3 : Nat) (W3 : World), W3.ownsRow w.heap.size 88 3 (.slice p3 (q + 1) cp3) (q + 1) (jg L ++ jg [⟨ck, cv, false⟩]) →
           (W2.alloc (.cells #[jc ck, jc cv, .bool false] 88)).grownBy W3 (Value.slice pv q cpv).ownBlock → ((Value.slice p3 (q + 1) cp3).ownBlock = (Value.slice pv q cpv).ownBlock ∨ (Value.slice p3 (q + 1) cp3).ownBlock = some (W2.alloc (.cells #[jc ck, jc cv, .bool false] 88)).heap.size) →
           ∃ C' : Nat → Prop, (∀ i, C' i → C i ∨ W.heap.size ≤ i) ∧ (∀ i, C' i → i < (W3.setCell ⟨w.heap.size + 1 + 1, 0, none⟩ (.slice p3 (q + 1) cp3)).heap.size) ∧ ja W2 (W3.setCell ⟨w.heap.size + 1 + 1, 0, none⟩ (.slice p3 (q + 1) cp3)) C ∧
             ∃ (m' : Nat) (v : Value), (l.take m).map Jd ++ [Jd ⟨ck, cv, false⟩] = (l.take m').map Jd ∧ m' ≤ l.length ∧
               (W3.setCell ⟨w.heap.size + 1 + 1, 0, none⟩ (.slice p3 (q + 1) cp3)).heap[w.heap.size]? = some (.cells #[.slice none 0 0] 38 (0, 0)) ∧ (W3.setCell ⟨w.heap.size + 1 + 1, 0, none⟩ (.slice p3 (q + 1) cp3)).heap[w.heap.size + 1]? = some (.cells #[.nilIface] 128 (0, 0)) ∧
               (W3.setCell ⟨w.heap.size + 1 + 1, 0, none⟩ (.slice p3 (q + 1) cp3)).heap[w.heap.size + 1 + 1]? = some (.cells #[v] 38 (0, 0)) ∧ (W3.setCell ⟨w.heap.size + 1 + 1, 0, none⟩ (.slice p3 (q + 1) cp3)).ownsRow w.heap.size 88 3 v (kept (l.take m')).length (jg (kept (l.take m'))) ∧ (∀ g, v.ownBlock = some g → w.heap.size + 3 ≤ g) ∧
               ja w (W3.setCell ⟨w.heap.size + 1 + 1, 0, none⟩ (.slice p3 (q + 1) cp3)) (j6 ρ) ∧ (∀ i, C' i ↔ i = w.heap.size ∨ i = w.heap.size + 1 ∨ i = w.heap.size + 1 + 1 ∨ v.ownBlock = some i) := by
         intro p3 cp3 W3 hr3 hg3 hl3
         have kA : ja W2 (W2.alloc (.cells #[jc ck, jc cv, .bool false] 88)) (fun _ => False) := ja.alloc _ _ _
         have k3 : ja W2 W3 (fun i => (Value.slice pv q cpv).ownBlock = some i) := (kA.mono (fun _ _ h => h.elim)).trans (ja.grown hg3) (fun i _ e => e.symm)
         have k4 := ja.setCell W3 ⟨w.heap.size + 1 + 1, 0, none⟩ (.slice p3 (q + 1) cp3)
         have hlow : ∀ i, i < w.heap.size + 3 → ¬ (Value.slice pv q cpv).ownBlock = some i := fun i hi e => by have := hown i e; omega
         have h33 := k3.same HG3.out (hlow _ (by omega))
         have hs3 := k3.size
         have hw0 := kW.size
         have hWs : w.heap.size + 3 ≤ W.heap.size := by omega
         have hg3' : ∀ g, (Value.slice p3 (q + 1) cp3).ownBlock = some g → (Value.slice pv q cpv).ownBlock = some g ∨ W2.heap.size ≤ g := by
           intro g hg
           rcases hl3 with h | h
           · exact .inl (h ▸ hg)
           · rw [h] at hg
             cases hg
             exact .inr (by simp)
         have hrow4 := k4.row hr3 (fun g hg e => by
           have e' : g = w.heap.size + 1 + 1 := e
           rcases hg3' g hg with h | h
           · exact hlow g (by omega) h
           · omega)
         refine ⟨fun i => i = w.heap.size ∨ i = w.heap.size + 1 ∨ i = w.heap.size + 1 + 1 ∨ (Value.slice p3 (q + 1) cp3).ownBlock = some i, ?_, ?_, ?_, m + 1, .slice p3 (q + 1) cp3, E1.out, hk2, ?_, ?_, ?_, ?_, ?_, ?_, fun _ => Iff.rfl⟩
         · rintro i (h | h | h | h)
           · exact .inl ((hHC.out i).2 (.inl h))
           · exact .inl ((hHC.out i).2 (.inr (.inl h)))
           · exact .inl ((hHC.out i).2 (.inr (.inr (.inl h))))
           · rcases hg3' i h with h | h
             · exact .inl ((hHC.out i).2 (.inr (.inr (.inr h))))
             · exact .inr (by omega)
         · intro i h
           have hsz : (W3.setCell ⟨w.heap.size + 1 + 1, 0, none⟩ (.slice p3 (q + 1) cp3)).heap.size = W3.heap.size := by simp [World.setCell]
           rw [hsz]
           rcases h with h | h | h | h
           · omega
           · omega
           · omega
           · exact (hr3.lt i h).2
         · exact (k3.mono (fun i _ h => (hHC.out i).2 (.inr (.inr (.inr h))))).trans k4 (fun i _ e => (hHC.out i).2 (.inr (.inr (.inl e))))
         · exact k4.same (k3.same HG1.out (hlow _ (by omega))) (by simp; omega)
         · exact k4.same (k3.same HG2.out (hlow _ (by omega))) (by simp)
         · exact (jb h33 _).trans rfl
         · rw [hkp, List.length_append, ← hq, Zy]; exact hrow4
         · intro g hg
           rcases hg3' g hg with h | h
           · exact hown g h
           · omega
         · exact (hkw'.trans k3 (fun i hi e => by have := hown i e; omega)).trans k4 (fun i hi e => by have e' : i = w.heap.size + 1 + 1 := e; omega)
       have h63 : q + 1 ≤ maxLen := by unfold maxLen; omega
       have hbs : (q + 1) * 40 ≤ 140737488355328 := by omega
       have hbb : w.heap.size ≤ (W2.alloc (.cells #[jc ck, jc cv, .bool false] 88)).heap.size := by simp; have := kW.size; omega
       have hnew : ∀ j u, (jg [⟨ck, cv, false⟩])[j]? = some u → (W2.alloc (.cells #[jc ck, jc cv, .bool false] 88)).cell? ((⟨W2.heap.size, 0, none⟩ : Addr).add j) = some u := Qc (jd W2 _) rfl
       have hone := tu [⟨ck, cv, false⟩]
       obtain ⟨j0, hj, hy0, hy1, hy2⟩ := info_parts Tryz.Z8
       have hst : ∀ W3 : World, (W2.alloc (.cells #[jc ck, jc cv, .bool false] 88)).grownBy W3 (Value.slice pv q cpv).ownBlock → W3.cell? ⟨w.heap.size + 1 + 1, 0, none⟩ = some (.slice pv q cpv) ∧ W3.frozen? ⟨w.heap.size + 1 + 1, 0, none⟩ = false := by
         intro W3 hg3
         have h33 := (ja.grown hg3).same ((ja.alloc W2 (.cells #[jc ck, jc cv, .bool false] 88) (fun _ => False)).same HG3.out id) (fun e => by have := hown _ e.symm; omega)
         exact ⟨(cell_of_heap h33).trans rfl, frozen_of_heap h33⟩
       have HST := hide hst
       have HFIN := hide fin
       have H63 := hide h63
       have HBS := hide hbs
       have HBBB := hide hbb
       have HNEW := hide hnew
       have HONE := hide hone
       have HROW := hide (hrow'.alloc (.cells #[jc ck, jc cv, .bool false] 88))
       clear hst fin h63 hbs hbb hnew hone hkp hq hL hrow hrow'
       gi_wp2_with (gi_at_builtin; refine Qu _ rfl (.tmp 18) (.tmp 20) 38 rfl w.heap.size 88 j0 A8 3 40 Tryz.underlying38 hj hy0 hy1 hy2 rfl (Nat.zero_lt_succ 2) (.slice pv q cpv) q (jg L) rfl HROW.out ⟨W2.heap.size, 0, none⟩ 1 1 (jg [⟨ck, cv, false⟩]) rfl rfl HNEW.out HONE.out H63.out HBS.out HBBB.out ?_; intro p3 cp3 W3 hr3 hg3 hl3; obtain ⟨c33, f33⟩ := HST.out W3 hg3)
       exact HFIN.out p3 cp3 W3 hr3 hg3 hl3
   · obtain ⟨x1, ev⟩ := x
     simp only at hx1 hx2
     subst hx1
     obtain ⟨tv, av, rfl⟩ := hx2.shape
     dsimp only [encI, ak]
     gi_wp2
     refine ⟨ja.alloc W _ _, ?_⟩
     intro W2 k2 _
     have ka : ja W W2 (fun i => i = lp) := ((ja.alloc W _ (fun _ => False)).mono (fun _ _ h => h.elim)).trans k2 (fun _ _ h => h)
     have hne : ∀ i, i < w.heap.size + 3 → ¬ i = lp := fun i hi => by omega
     have g1' := ka.same g1 (hne _ (by omega))
     have g2' := ka.same g2 (hne _ (by omega))
     have a1 := cell_of_heap (o := 0) g1'
     have f1 := frozen_of_heap (o := 0) g1'
     have a2 := cell_of_heap (o := 0) g2'
     have f2 := frozen_of_heap (o := 0) g2'
     simp at a1 a2
     have HG1 := hide g1'
     have HG2 := hide g2'
     have HH1 := hide g1
     have HH2 := hide g2
     have HC := hide hC
     clear g1 g2 g3 g1' g2' hC
     have hkw' : ja w W2 (j6 ρ) := hkw.trans ka (fun i hi e => by omega)
     have hsW : W.heap.size + 1 ≤ W2.heap.size := by have := k2.size; simpa using this
     have hfin : ve E ((W2.setCell ⟨w.heap.size, 0, none⟩ (.slice none 0 0)).setCell ⟨w.heap.size + 1, 0, none⟩ (.iface tv (.pointer (some av)))) (.iface tv (.pointer (some av))) bad := by
       obtain ⟨g, hg, hg2⟩ := hx2
       have k3 : ja W ((W2.setCell ⟨w.heap.size, 0, none⟩ (.slice none 0 0)).setCell ⟨w.heap.size + 1, 0, none⟩ (.iface tv (.pointer (some av)))) (fun i => i = lp ∨ i = w.heap.size ∨ i = w.heap.size + 1) :=
         ((ka.mono (fun _ _ h => .inl h)).set (p := ⟨w.heap.size, 0, none⟩) (.inr (.inl rfl)) _).set (p := ⟨w.heap.size + 1, 0, none⟩) (.inr (.inr rfl)) _
       refine ⟨g, hg.keep k3 (fun i c h hc => ?_), hg2⟩
       rcases h with h | h | h
       · rw [h, hrl] at hc; cases hc
       · rw [h, HH1.out] at hc; cases hc
       · rw [h, HH2.out] at hc; cases hc
     have HE := hide hfin
     clear hx2 hfin
     gi_wp2
     refine ⟨C, fun i h => .inl h, fun i h => ?_, ?_, rfl, bad, _, he, HE.out, ?_, ?_, ?_⟩
     · have := hbd i h
       have hsz : ((W2.setCell ⟨w.heap.size, 0, none⟩ (.slice none 0 0)).setCell ⟨w.heap.size + 1, 0, none⟩ (.iface tv (.pointer (some av)))).heap.size = W2.heap.size := by simp [World.setCell]
       omega
     · exact ((ja.refl W2 C).set (p := ⟨w.heap.size, 0, none⟩) ((HC.out _).2 (.inl rfl)) _).set (p := ⟨w.heap.size + 1, 0, none⟩) ((HC.out _).2 (.inr (.inl rfl))) _
     · exact (ja.setCell _ _ _).same ((jb HG1.out _).trans rfl) (by simp)
     · exact (jb ((ja.setCell W2 ⟨w.heap.size, 0, none⟩ (.slice none 0 0)).same HG2.out (by simp)) _).trans rfl
     · exact (hkw'.Xk (p := ⟨w.heap.size, 0, none⟩) (by simp) _).Xk (p := ⟨w.heap.size + 1, 0, none⟩) (by simp) _
 case done =>
   rintro D' lp C xs W2 W hD hlp hne hnd hnl ⟨DK, hfin⟩ hk ⟨m, v, e, hm, g1, g2, g3, hrow, hown, hkw, hC⟩ hK
   have a1 := cell_of_heap (o := 0) g1
   have f1 := frozen_of_heap (o := 0) g1
   have a2 := cell_of_heap (o := 0) g2
   have f2 := frozen_of_heap (o := 0) g2
   have a3 := cell_of_heap (o := 0) g3
   simp at a1 a2 a3
   have HG1 := hide g1
   have HG2 := hide g2
   have HC := hide hC
   clear g1 g2 g3 hC
   have hml : m = l.length ∧ err = none := by
     rcases hfin with ⟨h1, h2⟩ | ⟨bad, ev, h1, ⟨t, a, rfl⟩, h2⟩
     · rw [e] at h2
       have := congrArg List.length h2
       simp at this
       exact ⟨by omega, h1⟩
     · rw [e] at h2
       have h3 : (ak, Value.iface t (.pointer (some a))) ∈ (l.take m).map Jd := by rw [h2]; simp
       obtain ⟨c, _, h4⟩ := List.mem_map.1 h3
       cases h4
   obtain ⟨rfl, herr⟩ := hml
   rw [List.take_length] at hrow
   obtain ⟨pv, cpv, rfl⟩ := jh hrow
   have HDK := hide DK
   clear hfin DK e
   obtain ⟨z1, z2, z3, z4⟩ := leave (W := W) (D := D') herr hD (fun h => hnd ((HC.out D').2 (.inr (.inr (.inr h))))) hK (HDK.out.apart hk (fun i hi e => by rw [e]; exact ⟨nT lp (by omega), by omega⟩)) HG1.out HG2.out hrow hown hkw
   have Z1 := hide z1
   have Z2 := hide z2
   have Z3 := hide z3
   have Z4 := hide z4
   clear z1 z2 z3 z4
   gi_wp2
   have z2 := Z2.out
   have z3 := Z3.out
   refine ⟨by simp, .inl ⟨_, _, rfl, run_takeDeferred Z1.out, ?_⟩⟩
   exact ⟨.tuple #[.slice pv (kept l).length cpv, .nilIface], (by simp [results, Tryz.results119, go_sem, z2, z3]), Z4.out⟩
 case stop =>
   rintro D' lp C c pre W2 W hD hlp hne hnd hnl DK hk ⟨rfl, bad, ev, h1, h3, h4, h5, h6⟩ hK
   gi_wp2
   have k9 := ja.putObj W D' (.deferred none)
   have r4 := cell_of_heap (o := 0) (k9.same h4 (by omega))
   have r5 := cell_of_heap (o := 0) (k9.same h5 (by omega))
   simp at r4 r5
   refine ⟨by simp, .inl ⟨_, _, rfl, run_takeDeferred hK, ?_⟩⟩
   refine ⟨.tuple #[.slice none 0 0, ev], (by simp [results, Tryz.results119, go_sem, r4, r5]), _, _, rfl, h6.trans k9 (fun i hi e => by omega), ?_, .inr ⟨bad, h1, rfl, ?_⟩⟩
   · exact (DK.apart hk (fun i hi e => by rw [e]; exact ⟨nT lp (by omega), by omega⟩)).apart k9 (fun i hi e => by rw [e]; exact ⟨nT D' (by omega), by omega⟩)
   · obtain ⟨g, he, hg⟩ := h3
     exact ⟨g, he.keep k9 (fun i c e hc => by rw [e, hK] at hc; cases hc), hg⟩
end Go.Proofs.YtnipbplghijdmaaGreatDoor
