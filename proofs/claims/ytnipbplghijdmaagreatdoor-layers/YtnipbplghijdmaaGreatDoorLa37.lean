/-
  La: LookG LayQ.
-/
import Derived.Deep.RegionHeld
import Derived.Test.YtnipbplghijdmaaGreatDoorLa35
import Derived.Test.YtnipbplghijdmaaGreatDoorLa14
import Derived.Test.YtnipbplghijdmaaGreatDoorLa36
namespace Go.Proofs.YtnipbplghijdmaaGreatDoor
open Go.RowKit Go.Maps Go.WideShapes
set_option linter.unusedVariables false
set_option linter.unusedSimpArgs false
theorem jcg {w : World} {b : Nat} {a0 a1 a2 a3 : Int} {p : Option Addr} {n c : Nat} {x5 x6 : Bool} (h : w.heap[b]? = some (.cells #[.int .i64 a0, .int .i64 a1, .int .i64 a2, .int .i64 a3, .slice p n c, .bool x5, .bool x6] 61 (0, 0))) : (loadVar 61 ⟨b, 0, none⟩).run Tryz.prog w = .ok (.agg #[.int .i64 a0, .int .i64 a1, .int .i64 a2, .int .i64 a3, .slice p n c, .bool x5, .bool x6]) w := by
 have c0 := cell_of_heap (o := 0) h
 have c1 := cell_of_heap (o := 1) h
 have c2 := cell_of_heap (o := 2) h
 have c3 := cell_of_heap (o := 3) h
 have c4 := cell_of_heap (o := 4) h
 have c5 := cell_of_heap (o := 5) h
 have c6 := cell_of_heap (o := 6) h
 simp at c0 c1 c2 c3 c4 c5 c6
 go_simp
theorem Pt {fn : Func} {t : Tmp} (h : fn.results = #[.cell t 61]) {tmps : Array Value} {w : World} {b : Nat} {a0 a1 a2 a3 : Int} {p : Option Addr} {n c : Nat} {x5 x6 : Bool} (ht : tmps.getD t undef = .pointer (some ⟨b, 0, none⟩))
   (hb : w.heap[b]? = some (.cells #[.int .i64 a0, .int .i64 a1, .int .i64 a2, .int .i64 a3, .slice p n c, .bool x5, .bool x6] 61 (0, 0))) : (results fn tmps).run Tryz.prog w = .ok (.agg #[.int .i64 a0, .int .i64 a1, .int .i64 a2, .int .i64 a3, .slice p n c, .bool x5, .bool x6]) w := by
 have hl := jcg hb
 have ht' : tmps[t]?.getD undef = .pointer (some ⟨b, 0, none⟩) := by simpa using ht
 simp [results, h, ht', asAddr, hl]
set_option maxHeartbeats 1000000 in
set_option maxRecDepth 100000 in
theorem jej {w : World} {b : Nat} {dv mv rv : Value} {nx la lo ba last : Nat} {runs : List Nat} {deg cl : Bool} (hrow : w.heap[b]? = some (.cells (yl dv (jf nx) (jf la) (jf lo) (jf ba) rv (jf last) mv deg cl) 121 (0, 0))) (hrn : J2 w rv runs) (hrl : runs.length < 1099511627776) :
   Calls Tryz.prog 32 #[.pointer (some ⟨b, 0, none⟩)] w fun e w' => ∃ p c, e = .returned (.agg #[j4 last, j4 lo, j4 ba, j4 nx, .slice p runs.length c, .bool deg, .bool cl]) ∧ w'.ownsRow w.heap.size 3 1 (.slice p runs.length c) runs.length (runs.map jf) ∧ ja w w' (fun _ => False) := by
 have q1 := cell_of_heap (o := 1) hrow
 have q3 := cell_of_heap (o := 3) hrow
 have q4 := cell_of_heap (o := 4) hrow
 have q5 := cell_of_heap (o := 5) hrow
 have q6 := cell_of_heap (o := 6) hrow
 have q8 := cell_of_heap (o := 8) hrow
 have q9 := cell_of_heap (o := 9) hrow
 simp [yl] at q1 q3 q4 q5 q6 q8 q9
 have hlt := lt_of_heap hrow
 clear hrow
 obtain ⟨w1, hw1⟩ : ∃ w1, w1 = w.alloc (.cells #[.int .i64 0, .int .i64 0, .int .i64 0, .int .i64 0, .slice none 0 0, .bool false, .bool false] 61) := ⟨_, rfl⟩
 obtain ⟨bx, hbx⟩ : ∃ bx, bx = w.heap.size := ⟨_, rfl⟩
 have hn1 : ¬ b = bx := by omega
 have hn2 : ¬ bx = b := by omega
 clear hlt
 have k1 : ja w w1 (fun _ => False) := by rw [hw1]; exact ja.alloc _ _ _
 have hB1 : w1.heap[bx]? = some (.cells #[.int .i64 0, .int .i64 0, .int .i64 0, .int .i64 0, .slice none 0 0, .bool false, .bool false] 61 (0, 0)) := by rw [hw1, hbx]; exact jd _ _
 have HCL : Hid (∀ W, ja w1 W (fun _ => False) → Calls Tryz.prog 74 #[rv] W fun e w' => ∃ p c, e = .returned (.slice p runs.length c) ∧ w'.ownsRow W.heap.size 3 1 (.slice p runs.length c) runs.length (runs.map jf) ∧ ja W w' (fun _ => False)) := fun W kW => kr W rv runs ((hrn.same k1).same kW) hrl
 have kd : ja w1 w1.drew (fun _ => False) := ja.drew _ _
 have q1 := k1.cell q1 id
 have q3 := k1.cell q3 id
 have q4 := k1.cell q4 id
 have q5 := k1.cell q5 id
 have q6 := k1.cell q6 id
 have q8 := k1.cell q8 id
 have q9 := k1.cell q9 id
 have HB1 := hide hB1
 have HBX := hide hbx
 have HW1 := hide hw1
 obtain ⟨nr, hnr⟩ : ∃ nr, nr = runs.length := ⟨_, rfl⟩
 rw [← hnr] at HCL ⊢
 have HNR := hide hnr
 clear hB1 hbx hw1 hrn hrl hnr
 go_enter Tryz.func32, Tryz.ntmps32
 go_wp2_with fail
 rw [← HW1.out, ← HBX.out]
 go_region_held (fun W => W.cell? ⟨b, 1, none⟩ = some (jf nx) ∧ W.cell? ⟨b, 3, none⟩ = some (jf lo) ∧ W.cell? ⟨b, 4, none⟩ = some (jf ba) ∧ W.cell? ⟨b, 5, none⟩ = some rv ∧ W.cell? ⟨b, 6, none⟩ = some (jf last) ∧ W.cell? ⟨b, 8, none⟩ = some (.bool deg) ∧ W.cell? ⟨b, 9, none⟩ = some (.bool cl)) (go_keep)
   (first | (go_at_call 74; refine (HCL.out _ kd).mono ?_; rintro e w2 ⟨p2, c2, rfl, hr2, k2⟩; have q1 := k2.cell q1 id; have q3 := k2.cell q3 id; have q4 := k2.cell q4 id; have q5 := k2.cell q5 id; have q6 := k2.cell q6 id; have q8 := k2.cell q8 id; have q9 := k2.cell q9 id; have hbx2 := k2.same HB1.out id; have z0 := cell_of_heap (o := 0) hbx2; have z1 := cell_of_heap (o := 1) hbx2; have z2 := cell_of_heap (o := 2) hbx2; have z3 := cell_of_heap (o := 3) hbx2; have z4 := cell_of_heap (o := 4) hbx2; have z5 := cell_of_heap (o := 5) hbx2; have z6 := cell_of_heap (o := 6) hbx2; simp at z0 z1 z2 z3 z4 z5 z6; have y0 := frozen_of_heap (o := 0) hbx2; have y1 := frozen_of_heap (o := 1) hbx2; have y2 := frozen_of_heap (o := 2) hbx2; have y3 := frozen_of_heap (o := 3) hbx2; have y4 := frozen_of_heap (o := 4) hbx2; have y5 := frozen_of_heap (o := 5) hbx2; have y6 := frozen_of_heap (o := 6) hbx2; have HB2 := hide hbx2; clear hbx2))
 obtain ⟨x0, hx0⟩ : ∃ x, x = w2.setCell ⟨bx, 0, none⟩ (.int .i64 (last : Int)) := ⟨_, rfl⟩
 have e0 : x0.heap[bx]? = some (.cells #[.int .i64 (last : Int), .int .i64 0, .int .i64 0, .int .i64 0, .slice none 0 0, .bool false, .bool false] 61 (0, 0)) := by rw [hx0]; exact (jb HB2.out _).trans rfl
 have m0 : ja w2 x0 (fun i => i = bx) := by rw [hx0]; exact ja.setCell w2 _ _
 obtain ⟨x1, hx1⟩ : ∃ x, x = x0.setCell ⟨bx, 1, none⟩ (.int .i64 (lo : Int)) := ⟨_, rfl⟩
 have e1 : x1.heap[bx]? = some (.cells #[.int .i64 (last : Int), .int .i64 (lo : Int), .int .i64 0, .int .i64 0, .slice none 0 0, .bool false, .bool false] 61 (0, 0)) := by rw [hx1]; exact (jb e0 _).trans rfl
 have m1 : ja w2 x1 (fun i => i = bx) := by rw [hx1]; exact m0.set (p := ⟨bx, 1, none⟩) rfl _
 obtain ⟨x2, hx2⟩ : ∃ x, x = x1.setCell ⟨bx, 2, none⟩ (.int .i64 (ba : Int)) := ⟨_, rfl⟩
 have e2 : x2.heap[bx]? = some (.cells #[.int .i64 (last : Int), .int .i64 (lo : Int), .int .i64 (ba : Int), .int .i64 0, .slice none 0 0, .bool false, .bool false] 61 (0, 0)) := by rw [hx2]; exact (jb e1 _).trans rfl
 have m2 : ja w2 x2 (fun i => i = bx) := by rw [hx2]; exact m1.set (p := ⟨bx, 2, none⟩) rfl _
 obtain ⟨x3, hx3⟩ : ∃ x, x = x2.setCell ⟨bx, 3, none⟩ (.int .i64 (nx : Int)) := ⟨_, rfl⟩
 have e3 : x3.heap[bx]? = some (.cells #[.int .i64 (last : Int), .int .i64 (lo : Int), .int .i64 (ba : Int), .int .i64 (nx : Int), .slice none 0 0, .bool false, .bool false] 61 (0, 0)) := by rw [hx3]; exact (jb e2 _).trans rfl
 have m3 : ja w2 x3 (fun i => i = bx) := by rw [hx3]; exact m2.set (p := ⟨bx, 3, none⟩) rfl _
 obtain ⟨x4, hx4⟩ : ∃ x, x = x3.setCell ⟨bx, 4, none⟩ (.slice p2 nr c2) := ⟨_, rfl⟩
 have e4 : x4.heap[bx]? = some (.cells #[.int .i64 (last : Int), .int .i64 (lo : Int), .int .i64 (ba : Int), .int .i64 (nx : Int), .slice p2 nr c2, .bool false, .bool false] 61 (0, 0)) := by rw [hx4]; exact (jb e3 _).trans rfl
 have m4 : ja w2 x4 (fun i => i = bx) := by rw [hx4]; exact m3.set (p := ⟨bx, 4, none⟩) rfl _
 obtain ⟨x5, hx5⟩ : ∃ x, x = x4.setCell ⟨bx, 5, none⟩ (.bool deg) := ⟨_, rfl⟩
 have e5 : x5.heap[bx]? = some (.cells #[.int .i64 (last : Int), .int .i64 (lo : Int), .int .i64 (ba : Int), .int .i64 (nx : Int), .slice p2 nr c2, .bool deg, .bool false] 61 (0, 0)) := by rw [hx5]; exact (jb e4 _).trans rfl
 have m5 : ja w2 x5 (fun i => i = bx) := by rw [hx5]; exact m4.set (p := ⟨bx, 5, none⟩) rfl _
 obtain ⟨x6, hx6⟩ : ∃ x, x = x5.setCell ⟨bx, 6, none⟩ (.bool cl) := ⟨_, rfl⟩
 have e6 : x6.heap[bx]? = some (.cells #[.int .i64 (last : Int), .int .i64 (lo : Int), .int .i64 (ba : Int), .int .i64 (nx : Int), .slice p2 nr c2, .bool deg, .bool cl] 61 (0, 0)) := by rw [hx6]; exact (jb e5 _).trans rfl
 have m6 : ja w2 x6 (fun i => i = bx) := by rw [hx6]; exact m5.set (p := ⟨bx, 6, none⟩) rfl _
 rw [← hx0, ← hx1, ← hx2, ← hx3, ← hx4, ← hx5, ← hx6]
 have HE := hide e6
 clear e0 e1 e2 e3 e4 e5 e6 hx0 hx1 hx2 hx3 hx4 hx5 hx6
 have hbb := HBX.out
 have hlb : bx < w1.heap.size := lt_of_heap HB1.out
 go_wp2
 refine bodyPost_ret (Pt rfl rfl HE.out) rfl ?_
 refine ⟨p2, c2, rfl, ?_, ((k1.trans kd (fun _ _ h => h)).trans k2 (fun _ _ h => h)).trans m6 (fun i hi e => by have e' : i = bx := e; omega)⟩
 rw [HNR.out] at hr2 ⊢
 refine xx (m6.row hr2 (fun g hg e => ?_)) (Nat.le_trans k1.size kd.size)
 have e' : g = bx := e
 have h1 := (hr2.lt g hg).1
 have h2 := kd.size
 omega
def jfj (s : Ref.St) (w : World) (e : Ending) (w' : World) : Prop := ∃ p c, e = .returned (.agg #[j4 s.last, j4 s.m.log, j4 s.m.base, j4 s.m.next, .slice p s.m.runs.length c, .bool false, .bool false]) ∧ w'.ownsRow w.heap.size 3 1 (.slice p s.m.runs.length c) s.m.runs.length (s.m.runs.map jf) ∧ ja w w' (fun _ => False)
theorem jg1 {E : Nat → Addr} {B : Nat} {w : World} {d b k : Nat} {s : Ref.St} {F : Nat → Prop} (O : Own E B w d b s k F) :
   Calls Tryz.prog 32 #[.pointer (some ⟨b, 0, none⟩)] w (jfj s w) := by
 obtain ⟨ρ, rv, mv, S, hF⟩ := O
 exact (jej S.row S.runs (by have := S.ok.runs; omega)).mono (fun e w' h => h)
end Go.Proofs.YtnipbplghijdmaaGreatDoor
namespace Go.Proofs.YtnipbplghijdmaaGreatDoor
open Go.RowKit Go.Maps Go.WideShapes
set_option linter.unusedVariables false
def Ref.St.Yn (s : Ref.St) : Prop := s.m.runs = [] → (s.m.base = 0 ↔ s.live = [])
theorem Ref.St.Yn.first : Ref.St.first.Yn := fun _ => ⟨fun _ => rfl, fun _ => rfl⟩
theorem Ref.St.Yn.write {s : Ref.St} (h : s.Yn) (b : List Ref.Ch) : (s.write b).Yn := h
theorem Ref.St.Yn.flush {s : Ref.St} (h : s.Yn) : s.flush.Yn := by
 unfold Ref.St.flush
 split
 · exact h
 · intro hr
   cases hr
theorem Ref.St.Yn.compact {s : Ref.St} (h : s.Yn) (hn : 1 ≤ s.m.next) : s.compact.Yn := by
 unfold Ref.St.compact
 split
 · exact h
 · split
   · exact fun _ => ⟨fun _ => rfl, fun _ => rfl⟩
   · rename_i hv
     intro _
     have e : (Ref.St.mk s.m.zi s.bs [s.live]).live = s.live := by
       show Ref.there (Ref.merged [s.live]) = s.live
       rw [Ref.K9 (l := s.live) (Ref.Jg (Ref.zg _))]
       exact Ref.Im (Ref.Cx _)
     rw [e]
     refine ⟨fun hb => ?_, fun hb => absurd hb hv⟩
     have hb' : s.m.next = 0 := hb
     omega
theorem Ref.St.jey (s : Ref.St) : s.flush.bs = [] := by
 unfold Ref.St.flush
 split
 · assumption
 · rfl
theorem Ref.St.jas (s : Ref.St) : s.compact.bs = s.bs := by
 unfold Ref.St.compact
 split
 · rfl
 · split <;> rfl
theorem Ref.St.Ep (s : Ref.St) : s.compact.m.runs = [] := by
 unfold Ref.St.compact
 split
 · assumption
 · split <;> rfl
theorem Ref.St.jbx {s : Ref.St} (h : s.bs = []) : s.tell = s.live := by
 unfold Ref.St.tell Ref.St.all Ref.St.live Ref.St.mem
 rw [h, Ref.Qt]
 rfl
theorem Ref.St.Pp {s : Ref.St} (h : s.Yn) (hok : s.Ok) (hok1 : s.flush.Ok) (hn : 1 ≤ s.flush.m.next) : s.flush.compact.m.base = 0 ↔ s.tell = [] := by
 have h1 := (h.flush.compact hn) (Ref.St.Ep _)
 rw [h1, ← Ref.St.jbx (by rw [Ref.St.jas, Ref.St.jey]), Ref.St.om hok1, Ref.St.Iq]
structure uh (i nx : Nat) (sa sb : Ref.St) (ess : List (List Ref.Ch)) : Prop where
 len : ess.length = i
 fa : J4 i (Ref.mus ess) nx sa
 fb : J4 i (Ref.mus ess) 2 sb
 eb : sb = ⟨Ref.Man.first, ess, []⟩
 ta : sa.tell = Ref.Qr ess
 tb : sb.tell = Ref.Qr ess
 bo : sa.Yn
 ok : ∀ b ∈ ess, Ref.Ji b = true
theorem J4.mono {i M nx nx' : Nat} {s : Ref.St} (h : J4 i M nx s) (hn : nx ≤ nx') : J4 i M nx' s := ⟨h.ok, h.last, by have := h.next; omega, h.Al, h.runs, h.wt⟩
theorem uh.first : uh 0 2 Ref.St.first Ref.St.first [] := ⟨rfl, J4.first, J4.first, rfl, rfl, rfl, Ref.St.Yn.first, fun b h => by cases h⟩
section
variable {i nx : Nat} {sa sb : Ref.St} {ess : List (List Ref.Ch)}
theorem uh.mono (h : uh i nx sa sb ess) {nx' : Nat} (hn : nx ≤ nx') : uh i nx' sa sb ess := ⟨h.len, h.fa.mono hn, h.fb, h.eb, h.ta, h.tb, h.bo, h.ok⟩
theorem uh.write (h : uh i nx sa sb ess) {es : List Ref.Ch} (hb : Ref.Ji es = true) (hi : i < 1000000) : uh (i + 1) nx (sa.write es) (sb.write es) (ess ++ [es]) := by
 refine ⟨by rw [List.length_append, h.len]; rfl, by rw [Ref.mh]; exact h.fa.write hb hi, by rw [Ref.mh]; exact h.fb.write hb hi, by rw [h.eb]; rfl, by rw [Ref.St.Ip, h.ta, Ref.r9], by rw [Ref.St.Ip, h.tb, Ref.r9], h.bo.write es, fun b hm => ?_⟩
 rcases List.mem_append.1 hm with t | t
 · exact h.ok b t
 · rw [List.mem_singleton.1 t]; exact hb
theorem uh.flush (h : uh i nx sa sb ess) (hi : i < 60000) (hM : Ref.mus ess < 400000) (hn : nx + 2 ≤ 2000000000) : uh i (nx + 2) sa.flush sb ess :=
 ⟨h.len, h.fa.flush hi hM hn, h.fb, h.eb, by rw [Ref.St.Iq, h.ta], h.tb, h.bo.flush, h.ok⟩
theorem uh.compact (h : uh i nx sa sb ess) (hM : Ref.mus ess < 400000) (hn : nx + 1 ≤ 2000000000) : uh i (nx + 1) sa.compact sb ess :=
 ⟨h.len, h.fa.compact hM hn, h.fb, h.eb, by rw [Ref.St.om h.fa.ok, h.ta], h.tb, h.bo.compact h.fa.Al, h.ok⟩
theorem uh.jbl (h : uh i nx sa sb ess) (hv : qm sb.files ≤ 5000) : Ref.mus ess ≤ 5000 + 47 * i := by
 have h1 := Ref.jf1 0 ess h.ok
 have h2 := h.len
 rw [h.eb] at hv
 unfold Ref.St.files at hv
 rw [yz, yz] at hv
 have h3 : (Ref.jy 0 ess).length ≤ 5000 := by
   have hv' : Ref.Man.first.bytes.length + ((Ref.jy 0 ess).length + qm (yo Ref.Man.first.settled [])) ≤ 5000 := hv
   omega
 rw [h2] at h1
 omega
end
theorem jft {es : List Ref.Ch} (h1 : 1 ≤ es.length) (h8 : es.length ≤ 8) (h : ∀ x ∈ es, Y1 x) : Ref.mu es ≤ 312 := by
 have h2 := (ah h1 h8 h).2 0
 have h3 := Ref.kv 0 es
 omega
def El (W : World) (T : Nat → Prop) (x : Value) (es : List Ref.Ch) : Prop := Chs W x es ∧ ∀ g, x.ownBlock = some g → ¬ T g ∧ g < W.heap.size
theorem El.step {W W' : World} {T U T' : Nat → Prop} {x : Value} {es : List Ref.Ch} (h : El W T x es) (k : ja W W' U) (hU : ∀ i, U i → T i) (hT : ∀ i, T' i → T i ∨ W.heap.size ≤ i) : El W' T' x es := by
 refine ⟨h.1.keep k (fun _ p n c e hu => ?_), fun g hg => ⟨fun t => ?_, ?_⟩⟩
 · exact (h.2 p.block (by rw [e]; rfl)).1 (hU _ hu)
 · rcases hT g t with t | t
   · exact (h.2 g hg).1 t
   · have := (h.2 g hg).2; omega
 · have := (h.2 g hg).2
   have := k.size
   omega
structure Wr (w W : World) (T : Nat → Prop) (v : Value) (ess : List (List Ref.Ch)) : Prop where
 row : ∃ xs, W.ownsRow w.heap.size 38 1 v ess.length xs ∧ ∀ i (h : i < ess.length), ∃ x, xs[i]? = some x ∧ El W T x ess[i] ∧ ∀ g, v.ownBlock = some g → x.ownBlock ≠ some g
 nv : ∀ g, v.ownBlock = some g → ¬ T g
theorem Wr.first (w W : World) (T : Nat → Prop) : Wr w W T (.slice none 0 0) [] := ⟨⟨[], World.ownsRow_nil _ _ _ _, fun i h => by cases h⟩, fun g h => by cases h⟩
theorem Wr.step {w W W' : World} {T U T' : Nat → Prop} {v : Value} {ess : List (List Ref.Ch)} (h : Wr w W T v ess) (k : ja W W' U) (hU : ∀ i, U i → T i) (hT : ∀ i, T' i → T i ∨ W.heap.size ≤ i) : Wr w W' T' v ess := by
 obtain ⟨⟨xs, h1, h2⟩, h3⟩ := h
 refine ⟨⟨xs, k.row h1 (fun g hg hu => h3 g hg (hU g hu)), fun i hi => ?_⟩, fun g hg t => ?_⟩
 · obtain ⟨x, e, hx, hv⟩ := h2 i hi
   exact ⟨x, e, hx.step k hU hT, hv⟩
 · rcases hT g t with t | t
   · exact h3 g hg t
   · have := (h1.lt g hg).2; omega
theorem Wr.wri {w W : World} {T : Nat → Prop} {v : Value} {ess : List (List Ref.Ch)} (h : Wr w W T v ess) : Wri W v ess := by
 obtain ⟨⟨xs, h1, h2⟩, _⟩ := h
 refine ⟨_, xs, h1, fun i hi => ?_⟩
 obtain ⟨x, e, hx, _⟩ := h2 i hi
 exact ⟨x, e, hx.1⟩
theorem Wr.snoc {w W W' : World} {T : Nat → Prop} {v v' x : Value} {ess : List (List Ref.Ch)} {es : List Ref.Ch} {xs : List Value} (h : Wr w W T v ess) (hxs : W.ownsRow w.heap.size 38 1 v ess.length xs) (hx : El W T x es) (hvx : ∀ g, v.ownBlock = some g → x.ownBlock ≠ some g) (hT : ∀ i, T i → i < W.heap.size) (k : ja W W' (fun j => v.ownBlock = some j)) (hr : W'.ownsRow w.heap.size 38 1 v' (ess.length + 1) (xs ++ [x])) (hv : ∀ g, v'.ownBlock = some g → v.ownBlock = some g ∨ W.heap.size ≤ g)
   (hel : ∀ i (h : i < ess.length), ∃ y, xs[i]? = some y ∧ El W T y ess[i] ∧ ∀ g, v.ownBlock = some g → y.ownBlock ≠ some g) : Wr w W' T v' (ess ++ [es]) := by
 have up : ∀ y l, El W T y l → (∀ g, v.ownBlock = some g → y.ownBlock ≠ some g) → El W' T y l ∧ ∀ g, v'.ownBlock = some g → y.ownBlock ≠ some g := fun y l hy hn => by
   refine ⟨⟨hy.1.keep k (fun _ p n c e hu => hn _ hu (by rw [e]; rfl)), fun g hg => ⟨(hy.2 g hg).1, by have := (hy.2 g hg).2; have := k.size; omega⟩⟩, fun g hg e => ?_⟩
   rcases hv g hg with t | t
   · exact hn g t e
   · have := (hy.2 g e).2; omega
 have hxl : xs.length = ess.length := by
   have := hxs.1
   omega
 refine ⟨⟨xs ++ [x], by rw [List.length_append]; exact hr, fun i hi => ?_⟩, fun g hg t => ?_⟩
 · rw [List.length_append, List.length_singleton] at hi
   rcases Nat.lt_or_ge i ess.length with hlt | hge
   · obtain ⟨y, e, hy, hn⟩ := hel i hlt
     refine ⟨y, by rw [List.getElem?_append_left (by omega)]; exact e, ?_⟩
     rw [List.getElem_append_left hlt]
     exact up y _ hy hn
   · have hie : i = ess.length := by omega
     subst hie
     refine ⟨x, by rw [List.getElem?_append_right (by omega), hxl]; simp, ?_⟩
     rw [List.getElem_append_right (Nat.le_refl _)]
     simpa using up x es hx hvx
 · rcases hv g hg with t' | t'
   · exact h.nv g t' t
   · have := hT g t; omega
structure Bks (E : Nat → Addr) (B : Nat) (w : World) (ka kb da ba db bb : Nat) (Fa Fb : Nat → Prop) (sa sb : Ref.St) (k : Nat) (wv : Value) (ess : List (List Ref.Ch)) (W : World) : Prop where
 Ea : Own E B W da ba sa k Fa
 ownB : Own E B W db bb sb k Fb
 dis : ∀ i, Fa i → ¬ Fb i
 jcd : ∀ j, Fa j → w.heap.size ≤ j
 jcc : ∀ j, Fb j → w.heap.size ≤ j
 l8 : W.heap[ka]? = some (.cells (Er da ba wv) 51 (0, 0))
 Ct : W.heap[kb]? = some (.cells (Er db bb (.slice none 0 0)) 51 (0, 0))
 nka : ¬ Fa ka ∧ ¬ Fb ka ∧ w.heap.size ≤ ka
 nkb : ¬ Fa kb ∧ ¬ Fb kb ∧ w.heap.size ≤ kb
 ne : ka ≠ kb
 wr : Wr w W (fun i => Fa i ∨ Fb i ∨ i = ka ∨ i = kb) wv ess
 kw : ja w W (fun _ => False)
section
variable {E : Nat → Addr} {B : Nat} {w W W' : World} {ka kb da ba db bb : Nat} {Fa Fb : Nat → Prop} {sa sb sa' sb' : Ref.St} {k k' : Nat} {wv : Value} {ess : List (List Ref.Ch)}
theorem Bks.same (h : Bks E B w ka kb da ba db bb Fa Fb sa sb k wv ess W) (kk : ja W W' (fun _ => False)) : Bks E B w ka kb da ba db bb Fa Fb sa sb k wv ess W' :=
 ⟨h.Ea.same kk, h.ownB.same kk, h.dis, h.jcd, h.jcc, kk.same h.l8 id, kk.same h.Ct id, h.nka, h.nkb, h.ne, h.wr.step kk (fun _ f => f.elim) (fun _ t => .inl t), h.kw.trans kk (fun _ _ f => f)⟩
theorem Bks.mono (h : Bks E B w ka kb da ba db bb Fa Fb sa sb k wv ess W) (hk : k ≤ k') : Bks E B w ka kb da ba db bb Fa Fb sa sb k' wv ess W :=
 ⟨h.Ea.mono hk, h.ownB.mono hk, h.dis, h.jcd, h.jcc, h.l8, h.Ct, h.nka, h.nkb, h.ne, h.wr, h.kw⟩
theorem Bks.lt (h : Bks E B w ka kb da ba db bb Fa Fb sa sb k wv ess W) {i : Nat} (hi : Fa i ∨ Fb i ∨ i = ka ∨ i = kb) : i < W.heap.size := by
 rcases hi with t | t | t | t
 · exact (h.Ea.old t).2
 · exact (h.ownB.old t).2
 · rw [t]; exact lt_of_heap h.l8
 · rw [t]; exact lt_of_heap h.Ct
theorem Bks.I6 (h : Bks E B w ka kb da ba db bb Fa Fb sa sb k wv ess W) (hp : Qp E B W da ba sa' k' Fa W') (hk : k ≤ k') : ∃ Fa', Bks E B w ka kb da ba db bb Fa' Fb sa' sb k' wv ess W' ∧ ∀ x es, El W (fun i => Fa i ∨ Fb i ∨ i = ka ∨ i = kb) x es → El W' (fun i => Fa' i ∨ Fb i ∨ i = ka ∨ i = kb) x es := by
 obtain ⟨Fa', O, kk, hF⟩ := hp
 have hT : ∀ i, (Fa' i ∨ Fb i ∨ i = ka ∨ i = kb) → (Fa i ∨ Fb i ∨ i = ka ∨ i = kb) ∨ W.heap.size ≤ i := fun i t => by
   rcases t with t | t
   · rcases hF i t with t | t
     · exact .inl (.inl t)
     · exact .inr t
   · exact .inl (.inr t)
 have hB := h.ownB.size
 refine ⟨Fa', ⟨O, (h.ownB.mono hk).keep kk (fun i _ t => ⟨(h.Ea.old t).1, fun f => h.dis i t f⟩), fun i t f => ?_, fun j t => ?_, h.jcc, kk.same h.l8 h.nka.1, kk.same h.Ct h.nkb.1, ⟨fun t => ?_, h.nka.2⟩, ⟨fun t => ?_, h.nkb.2⟩, h.ne, h.wr.step kk (fun i t => .inl t) hT, h.kw.trans kk (fun i hi t => by have := h.jcd i t; omega)⟩, fun x es hx => hx.step kk (fun i t => .inl t) hT⟩
 · rcases hF i t with t | t
   · exact h.dis i t f
   · have := (h.ownB.old f).2; omega
 · rcases hF j t with t | t
   · exact h.jcd j t
   · have := h.kw.size; omega
 · rcases hF ka t with t | t
   · exact h.nka.1 t
   · have := lt_of_heap h.l8; omega
 · rcases hF kb t with t | t
   · exact h.nkb.1 t
   · have := lt_of_heap h.Ct; omega
theorem Bks.jgm (h : Bks E B w ka kb da ba db bb Fa Fb sa sb k wv ess W) (hp : Qp E B W db bb sb' k' Fb W') (hk : k ≤ k') : ∃ Fb', Bks E B w ka kb da ba db bb Fa Fb' sa sb' k' wv ess W' ∧ ∀ x es, El W (fun i => Fa i ∨ Fb i ∨ i = ka ∨ i = kb) x es → El W' (fun i => Fa i ∨ Fb' i ∨ i = ka ∨ i = kb) x es := by
 obtain ⟨Fb', O, kk, hF⟩ := hp
 have hT : ∀ i, (Fa i ∨ Fb' i ∨ i = ka ∨ i = kb) → (Fa i ∨ Fb i ∨ i = ka ∨ i = kb) ∨ W.heap.size ≤ i := fun i t => by
   rcases t with t | t | t
   · exact .inl (.inl t)
   · rcases hF i t with t | t
     · exact .inl (.inr (.inl t))
     · exact .inr t
   · exact .inl (.inr (.inr t))
 refine ⟨Fb', ⟨(h.Ea.mono hk).keep kk (fun i _ t => ⟨(h.ownB.old t).1, fun f => h.dis i f t⟩), O, fun i f t => ?_, h.jcd, fun j t => ?_, kk.same h.l8 h.nka.2.1, kk.same h.Ct h.nkb.2.1, ⟨h.nka.1, fun t => ?_, h.nka.2.2⟩, ⟨h.nkb.1, fun t => ?_, h.nkb.2.2⟩, h.ne, h.wr.step kk (fun i t => .inr (.inl t)) hT, h.kw.trans kk (fun i hi t => by have := h.jcc i t; omega)⟩, fun x es hx => hx.step kk (fun i t => .inr (.inl t)) hT⟩
 · rcases hF i t with t | t
   · exact h.dis i f t
   · have := (h.Ea.old f).2; omega
 · rcases hF j t with t | t
   · exact h.jcc j t
   · have := h.kw.size; omega
 · rcases hF ka t with t | t
   · exact h.nka.2.1 t
   · have := lt_of_heap h.l8; omega
 · rcases hF kb t with t | t
   · exact h.nkb.2.1 t
   · have := lt_of_heap h.Ct; omega
theorem Bks.note (h : Bks E B w ka kb da ba db bb Fa Fb sa sb k wv ess W) {x v' : Value} {es : List Ref.Ch} {xs : List Value} {W6 : World} (hxs : W.ownsRow w.heap.size 38 1 wv ess.length xs) (hel : ∀ i (h : i < ess.length), ∃ y, xs[i]? = some y ∧ El W (fun i => Fa i ∨ Fb i ∨ i = ka ∨ i = kb) y ess[i] ∧ ∀ g, wv.ownBlock = some g → y.ownBlock ≠ some g) (hx : El W (fun i => Fa i ∨ Fb i ∨ i = ka ∨ i = kb) x es) (hvx : ∀ g, wv.ownBlock = some g → x.ownBlock ≠ some g) (k6 : ja W W6 (fun j => wv.ownBlock = some j)) (hr : W6.ownsRow w.heap.size 38 1 v' (ess.length + 1) (xs ++ [x])) (hv : ∀ g, v'.ownBlock = some g → wv.ownBlock = some g ∨ W.heap.size ≤ g) (hB : B ≤ w.heap.size) :
   Bks E B w ka kb da ba db bb Fa Fb sa sb k v' (ess ++ [es]) (W6.setCell ⟨ka, 2, none⟩ v') := by
 have k7 := ja.setCell W6 ⟨ka, 2, none⟩ v'
 have w6 := h.wr.snoc hxs hx hvx (fun i t => h.lt t) k6 hr hv hel
 have nv : ∀ g, wv.ownBlock = some g → ¬ (Fa g ∨ Fb g ∨ g = ka ∨ g = kb) := h.wr.nv
 have hbk := hB
 have a6 := k6.same h.l8 (fun e => nv ka e (.inr (.inr (.inl rfl))))
 have b6 := k6.same h.Ct (fun e => nv kb e (.inr (.inr (.inr rfl))))
 refine ⟨(h.Ea.keep k6 (fun j _ e => ⟨by have := (hxs.lt j e).1; omega, fun f => nv j e (.inl f)⟩)).keep k7 (fun j _ e => ?_), (h.ownB.keep k6 (fun j _ e => ⟨by have := (hxs.lt j e).1; omega, fun f => nv j e (.inr (.inl f))⟩)).keep k7 (fun j _ e => ?_), h.dis, h.jcd, h.jcc, (jb a6 _).trans rfl, k7.same b6 (fun e => h.ne e.symm), h.nka, h.nkb, h.ne, w6.step k7 (fun i e => .inr (.inr (.inl e))) (fun _ t => .inl t), (h.kw.trans k6 (fun j hj e => by have := (hxs.lt j e).1; omega)).trans k7 (fun j hj e => by have e' : j = ka := e; have := h.nka.2.2; omega)⟩
 · have e' : j = ka := e
   rw [e']
   exact ⟨by have := h.nka.2.2; omega, h.nka.1⟩
 · have e' : j = ka := e
   rw [e']
   exact ⟨by have := h.nka.2.2; omega, h.nka.2.1⟩
end
end Go.Proofs.YtnipbplghijdmaaGreatDoor
