/-
  La: Range Append SyncDir ReadAll Err.
-/
import Derived.Sort.KeysCollected
import Derived.Test.YtnipbplghijdmaaGreatDoorLa05
import Derived.Test.YtnipbplghijdmaaGreatDoorLa06
import Derived.Test.YtnipbplghijdmaaGreatDoorLa04
namespace Go.Proofs.YtnipbplghijdmaaGreatDoor
open Go.RowKit Go.Maps Go.WideShapes
set_option linter.unusedVariables false
theorem dm (w : World) {ops : Array Oper} {rest : List Oper} {o : Oper} {a : Act} {Q : Exit → Act → World → Prop}
   (hg : o.guard = none) (it : Operand) (hop : o.op = Op.next it false) (b r n : Nat) (D : DataW Nat) (left : Lit → Bool) (cnt : Nat)
   (hit : a.eval it = .pointer (some ⟨r, 0, none⟩)) (h : w.ranges Tryz.prog 9 Jc b r n D left cnt) {fs : Nat → Option yw} (hL : df D fs)
   (hDone : cnt = 0 → (∀ kl, left kl = false) → wpList Tryz.prog ops Q rest (a.put o.dst (.tuple #[.bool false])) w)
   (hMore : ∀ (x : Str) (f : Nat) (w' : World) (cnt' : Nat), x.length ≤ maxLen → left (.string x) = true → (∃ fa, fs f = some fa) → (∀ zd, D.atKey (.string x) zd = .held f) →
     w'.ranges Tryz.prog 9 Jc b r n D (fun z => left z && !z.sameKey (.string x)) cnt' → cnt' < cnt → w.grownBy w' (some r) → w'.heap.size = w.heap.size →
     (Instr.entry (.pointer (some ⟨r, 0, none⟩))).run Tryz.prog w' = .ok (.tuple #[jc x, .pointer (some ⟨f, 0, none⟩)]) w' →
     wpList Tryz.prog ops Q rest (a.put o.dst (.tuple #[.bool true, jc x, .pointer (some ⟨f, 0, none⟩)])) w') :
   wpList Tryz.prog ops Q (o :: rest) a w := by
 refine wpList_plain hg fun K' hK' => ?_
 unfold Oper.wp
 rcases h.next law o.type with ⟨h0, hl, hrun⟩ | ⟨key, v, kl, y, w', cnt', hkey, hlk, hv, hat, hrun, hrg, hlt, hgr, hsz, hen⟩
 · simp [execOp, hop, hit, hrun, Result.andThen]
   exact hK' _ _ (hDone h0 hl)
 · obtain ⟨x, hx, rfl, hxl⟩ := Maps.keyOf_str Tryz.underlying9 hkey
   obtain ⟨f, fa, e1, e2⟩ := hL (.string x) (has_true_of_atKey hat)
   obtain ⟨e3, _⟩ := En hv
   have e4 : y.1 = .held f := (hat .nil).symm.trans e1
   rw [e4] at e3
   have e5 : v = .pointer (some ⟨f, 0, none⟩) := e3
   have hx' : key = jc x := hx
   subst e5 hx'
   simp [execOp, hop, hit, hrun, Result.andThen]
   exact hK' _ _ (hMore x f w' cnt' hxl hlk ⟨fa, e2⟩ (fun zd => (hat zd).trans e4) hrg hlt hgr hsz hen)
def entriesOf : DataW Nat → List (Lit × DataW Nat)
 | .map es => es
 | _ => []
def Uv (fs : Nat → Option yw) (y : DataW Nat) : Nat := ((fileOf y).bind fs).elim 0 (fun a => a.bytes.length)
def sumTo (fs : Nat → Option yw) (D : DataW Nat) (left : Lit → Bool) : Nat := ((entriesOf D).map fun p => if left p.1 then 0 else Uv fs p.2).sum
def total (fs : Nat → Option yw) (D : DataW Nat) : Nat := ((entriesOf D).map fun p => Uv fs p.2).sum
theorem Wd (g : Lit × DataW Nat → Nat) (left : Lit → Bool) (kl : Lit) (hk : WideAt.IsKeyLit kl) (hl : left kl = true) : ∀ es : List (Lit × DataW Nat), es.Pairwise (fun p q => p.1 ≠ q.1) → ∀ p ∈ es, p.1 = kl →
   (es.map fun q => if (left q.1 && !q.1.sameKey kl) then 0 else g q).sum = (es.map fun q => if left q.1 then 0 else g q).sum + g p := by
 have other : ∀ es : List (Lit × DataW Nat), (∀ q ∈ es, q.1 ≠ kl) → (es.map fun q => if (left q.1 && !q.1.sameKey kl) then 0 else g q) = es.map fun q => if left q.1 then 0 else g q := by
   intro es h
   apply List.map_congr_left
   intro q hq
   rw [sameKey_ne (h q hq)]
   simp
 intro es
 induction es with
 | nil => intro _ p hp; cases hp
 | cons y r ih =>
   intro hpw p hp he
   obtain ⟨h1, h2⟩ := List.pairwise_cons.1 hpw
   rcases List.mem_cons.1 hp with e | hp'
   · subst e
     have h3 : ∀ q ∈ r, q.1 ≠ kl := fun q hq e => h1 q hq (he.trans e.symm)
     have e1 : p.1.sameKey kl = true := by rw [he]; exact WideAt.sameKey_self hk
     have e2 : left p.1 = true := by rw [he]; exact hl
     simp only [List.map_cons, List.sum_cons, other r h3, e1, e2]
     simp
     omega
   · have e1 : y.1 ≠ kl := fun e => h1 p hp' (e.trans he.symm)
     have e2 : (left y.1 && !y.1.sameKey kl) = left y.1 := by rw [sameKey_ne e1]; simp
     simp only [List.map_cons, List.sum_cons, ih h2 p hp' he, e2]
     omega
theorem We {fs : Nat → Option yw} {D : DataW Nat} {left : Lit → Bool} {x : Str} {f : Nat} {a : yw} (hT : Tidy D) (hl : left (.string x) = true) (hat : ∀ zd, D.atKey (.string x) zd = .held f) (hf : fs f = some a) :
   sumTo fs D (fun z => left z && !z.sameKey (.string x)) = sumTo fs D left + a.bytes.length := by
 obtain ⟨es, rfl, hp⟩ := hT
 have hh := has_true_of_atKey hat
 obtain ⟨p, hp', hs⟩ := List.any_eq_true.1 hh
 have e1 : p.1 = .string x := WideAt.sameKey_eq hs
 have e2 : p.2 = .held f := by rw [← hat .nil, ← e1]; exact (WideAt.atKey_mem .nil (by rw [e1]; trivial) hp hp').symm
 have := Wd (fun q => Uv fs q.2) left (.string x) (by trivial) hl es hp p hp' e1
 simp only [sumTo, entriesOf]
 rw [this, e2]
 simp [Uv, fileOf, hf]
theorem Tm {fs : Nat → Option yw} {D : DataW Nat} (hC : Canon D) : sumTo fs D (Maps.has D) = 0 := by
 obtain ⟨es, rfl, _, hk⟩ := hC
 simp only [sumTo, entriesOf]
 have h : (es.map fun p => if Maps.has (.map es) p.1 = true then 0 else Uv fs p.2) = es.map fun _ => 0 := by
   apply List.map_congr_left
   intro p hp
   have h1 : Maps.has (.map es) p.1 = true := List.any_eq_true.2 ⟨p, hp, WideAt.sameKey_self (hk p hp)⟩
   rw [if_pos h1]
 rw [h]
 generalize es = l
 induction l with
 | nil => rfl
 | cons y r ih => simpa using ih
theorem jb0 {fs : Nat → Option yw} {D : DataW Nat} {left : Lit → Bool} (h : ∀ k, left k = false) : sumTo fs D left = total fs D := by
 simp [sumTo, total, h]
theorem sumTo_le {fs : Nat → Option yw} {D : DataW Nat} (left : Lit → Bool) : sumTo fs D left ≤ total fs D := by
 unfold sumTo total
 generalize entriesOf D = l
 induction l with
 | nil => simp
 | cons y r ih =>
   simp only [List.map_cons, List.sum_cons]
   split <;> omega
theorem Vw {w : World} {ρ : Nat → jw} {ad : Addr} {c : Nat} {src : List UInt8} (hr : ρ ad.block = .none) (hc : src.length ≤ c) (hcell : ∀ j u, (src.map qg)[j]? = some u → w.cell? (ad.add j) = some u) (k : Nat) (hk : k ≤ src.length) :
   Arg w ρ (.slice (some ad) k c) (src.take k) := by
 have hl : (src.take k).length = k := by simp; omega
 refine .inr ⟨ad, c, by rw [hl], by omega, hr, fun j u hu => hcell j u ?_⟩
 rw [List.getElem?_map] at hu ⊢
 rw [List.getElem?_take] at hu
 split at hu
 · exact hu
 · simp at hu
theorem Arg.keep {w w' : World} {ρ ρ' : Nat → jw} {v : Value} {l : List UInt8} {T : Nat → Prop} (h : Arg w ρ v l) (hk : ja w w' T) (hT : ∀ i, i < w.heap.size → ρ i = .none → ¬ T i) (hρ : ∀ i, ρ i = .none → i < w.heap.size → ρ' i = .none) (hpos : 0 < l.length) : Arg w' ρ' v l := by
 rcases h with ⟨_, rfl⟩ | ⟨ad, c, e, hc, hr, hcell⟩
 · simp at hpos
 · have hlt : ad.block < w.heap.size := by
     have h0 := hcell 0 (qg l[0]) (by simp [List.getElem?_eq_getElem hpos])
     have := World.block_lt_of_cell? w _ h0
     rwa [add_block] at this
   refine .inr ⟨ad, c, e, hc, hρ _ hr hlt, fun j u hu => hk.cell (hcell j u hu) (by rw [add_block]; exact hT _ hlt hr)⟩
set_option maxHeartbeats 4000000 in
set_option maxRecDepth 100000 in
theorem Gx {w : World} {ρ : Nat → jw} {d : Nat} {S : je} (nm : Str) (src : List UInt8) (ad : Addr) (c : Nat) (R : Rep w ρ d S) (Z : Small S) (hn : nm.length < 1099511627776) {f : Nat} {a : yw} (hA : S.at nm = some f) (ha : S.files f = some a)
   (hpos : 0 < src.length) (hsl : src.length < 1099511627776) (hv : Arg w ρ (.slice (some ad) src.length c) src) (hc : src.length ≤ c) (hcm : c ≤ maxLen) (htot : total S.files S.names < 1099511627776) :
   Calls Tryz.prog 62 #[.pointer (some ⟨d, 0, none⟩), jc nm, .slice (some ad) src.length c] w fun e w' => ∃ ρ', yf w ρ w' ρ' ∧
     (((S.bad = true ∨ 20000 < src.length + total S.files S.names) ∧ e = .returned (.int .i64 1) ∧ Rep w' ρ' d ((S.called true).withFile f (a.put (src.take (src.length / 2))))) ∨
      (S.bad = false ∧ src.length + total S.files S.names ≤ 20000 ∧ e = .returned (.int .i64 0) ∧ Rep w' ρ' d ((S.called true).withFile f (a.put src)))) := by
 have hkey := Yz hn
 have HA := hide hA
 have HF := hide ha
 clear hA ha
 have hB : S.bad = true ∨ S.bad = false := by cases S.bad <;> simp
 have hO : 20000 < src.length + total S.files S.names ∨ ¬ 20000 < src.length + total S.files S.names := by omega
 unfold maxLen at hcm
 go_enter Tryz.func62, Tryz.ntmps62
 go_wp2_with fail
 refine (z8 true R).mono ?_
 rintro e w1 ⟨rfl, R1, G1⟩
 obtain ⟨nb, sm, lv, hd, rn, rs, on, _⟩ := R1.mem
 have c0 := cell_of_heap (o := 0) hd
 simp at c0
 have HD := hide hd
 clear hd
 have hv1 : Arg w1 ρ (.slice (some ad) src.length c) src := hv.keep G1.keeps (fun i _ h1 h2 => h2 h1) (fun _ h _ => h) hpos
 have hL := R1.Jj
 have hCan := on.canon law
 have hTidy := on.tidy law
 have hz := (Z.called true).files
 clear hv
 go_wp2_with (first
   | (at_lookup; refine xq _ rfl _ _ rfl nb _ _ rfl on _ _ rfl hkey (.pointer (some ⟨f, 0, none⟩)) (congrArg ig HA.out) ?_)
   | (at_range; refine wpList_range_own _ rfl _ 98 rfl 9 146 law Tryz.underlying98 _ nb _ _ rfl on ?_; intro w0 hrg0 hg0 hs0)
   | go_in)
 go_frame
 go_loopw [9] (fun v wr => ∃ (left : Lit → Bool) (cnt : Nat), wr.ranges Tryz.prog 9 Jc nb w1.heap.size (Maps.size (S.called true).names) (S.called true).names left cnt ∧
     v = .int .i64 ((src.length : Int) + (sumTo S.files S.names left : Int)) ∧ ja w1 wr (fun _ => False))
   (fun _ wr => wr.rangeLeft nb w1.heap.size)
 case atStart => exact ⟨_, _, hrg0, by rw [show sumTo S.files S.names (Maps.has (S.called true).names) = 0 from Tm hCan]; simp, ja.grown hg0 |>.mono (fun _ _ h => by simp at h)⟩
 case round =>
   obtain ⟨left, cnt, hrg, rfl, hkw⟩ := hrel
   have hle := sumTo_le (fs := S.files) (D := S.names) left
   go_wp2_with (first
     | (at_next; refine dm _ rfl _ rfl nb w1.heap.size _ _ _ _ rfl hrg hL ?_ ?_)
     | go_in)
   · intro hc0 hl0
     have he : sumTo S.files S.names left = total S.files S.names := jb0 hl0
     have Rr : Rep wr ρ d (S.called true) := R1.keep hkw (fun _ h => h.elim)
     have Gr : yf w ρ wr ρ := G1.trans (yf.of hkw (fun _ _ h => h.elim))
     have hvr : Arg wr ρ (.slice (some ad) src.length c) src := hv1.keep hkw (fun _ _ _ h => h) (fun _ h _ => h) hpos
     have hfr : (S.called true).files f = some a := HF.out
     clear hrg hL hCan hTidy hz hrg0 hg0 hs0 hle hc0 hl0
     have hcell : Hid (ρ ad.block = .none ∧ ∀ j u, (src.map qg)[j]? = some u → wr.cell? (ad.add j) = some u) := by
       rcases hvr with ⟨e, _⟩ | ⟨ad', c', e, _, hr, hcc⟩
       · cases e
       · cases e; exact ⟨hr, hcc⟩
     rcases hB with hB | hB
     · go_wp2_with (go_at_call 103; refine (Px Rr (Z.called true) hfr (src.take (src.length / 2)) (by simp; omega) _ (Vw hcell.out.1 hc hcell.out.2 _ (by omega))).mono ?_; rintro e w3 ⟨rfl, ρ3, R3, G3⟩)
       go_ret
       exact ⟨ρ3, Gr.trans G3, .inl ⟨.inl hB, rfl, R3⟩⟩
     · rcases hO with hO | hO
       · have hO' : (20000 : Int) < (src.length : Int) + (total S.files S.names : Int) := by omega
         go_wp2_with (go_at_call 103; refine (Px Rr (Z.called true) hfr (src.take (src.length / 2)) (by simp; omega) _ (Vw hcell.out.1 hc hcell.out.2 _ (by omega))).mono ?_; rintro e w3 ⟨rfl, ρ3, R3, G3⟩)
         go_ret
         exact ⟨ρ3, Gr.trans G3, .inl ⟨.inr hO, rfl, R3⟩⟩
       · have hO' : ¬ (20000 : Int) < (src.length : Int) + (total S.files S.names : Int) := by omega
         go_wp2_with (go_at_call 103; refine (Px Rr (Z.called true) hfr src hsl _ hvr).mono ?_; rintro e w3 ⟨rfl, ρ3, R3, G3⟩)
         go_ret
         exact ⟨ρ3, Gr.trans G3, .inr ⟨hB, by omega, rfl, R3⟩⟩
   · intro x f' w2 cnt2 hxl hlk fa hfa hat hrg2 hlt hg2 hs2 hen
     have hst : sumTo S.files S.names (fun z => left z && !z.sameKey (.string x)) = sumTo S.files S.names left + fa.bytes.length := We hTidy hlk hat hfa
     have hle2 := sumTo_le (fs := S.files) (D := S.names) (fun z => left z && !z.sameKey (.string x))
     have hb2 : sumTo S.files S.names left + fa.bytes.length ≤ total S.files S.names := by rw [← hst]; exact hle2
     have HS := hide hst
     clear hst hle2
     have hk2 : ja w1 w2 (fun _ => False) := hkw.trans (ja.grown hg2) (fun i hi e => (by have := Option.some.inj e; omega))
     obtain ⟨rf', bv', pv', hc', hb', rb', hp', rp'⟩ := R1.files f' fa hfa
     obtain ⟨pb', cb', rfl⟩ := jh hb'
     have b0 := cell_of_heap (o := 0) (hk2.same hc' id)
     simp at b0
     clear hs2 hc'
     go_wp2
     go_roundw
     case rel => exact ⟨_, cnt2, hrg2, by rw [HS.out]; push_cast; go_num, hk2⟩
     case measure => rw [hrg2.left_eq, hrg.left_eq]; exact hlt
def o5 (D : DataW Nat) (l : List Jl) (k : Nat) : DataW Nat := (l.take k).foldl doA D
theorem Ty (D : DataW Nat) (l : List Jl) (k : Nat) (h : k < l.length) : o5 D l (k + 1) = doA (o5 D l k) l[k] := by
 unfold o5
 rw [List.take_succ_eq_append_getElem h, List.foldl_append]
 rfl
theorem Mc (l : List Jl) (k : Nat) (h : k < l.length) : ∀ i, i < 4 → (qz l)[k * 4 + i]? = (qz [l[k]])[i]? := by
 induction l generalizing k with
 | nil => simp at h
 | cons c r ih =>
   intro i hi
   have e : qz (c :: r) = qz [c] ++ qz r := by simp [qz]
   have hl : (qz [c]).length = 4 := rfl
   rw [e]
   cases k with
   | zero => simp only [Nat.zero_mul, Nat.zero_add, List.getElem_cons_zero]; rw [List.getElem?_append_left (by omega)]
   | succ k =>
     rw [List.getElem?_append_right (by omega), hl, show (k + 1) * 4 + i - 4 = k * 4 + i by omega, ih k (by simpa using h) i hi]
     simp
theorem jeu {D : DataW Nat} (h : IsMap D) (c : Jl) : IsMap (doA D c) := by
 unfold doA
 split
 · exact h.put _ _
 · split
   · split
     · exact (h.put _ _).del _
     · exact h.put _ _
   · exact h.del _
theorem Le {fs : Nat → Option yw} : ∀ (l : List Jl) (D : DataW Nat), IsMap D → df D fs → (∀ c ∈ l, ja7 fs c) → df (l.foldl doA D) fs
 | [], _, _, h, _ => h
 | c :: r, D, hm, h, hc => Le r (doA D c) (jeu hm c) (Uw hm h (hc c (by simp))) (fun x hx => hc x (by simp [hx]))
theorem Rep.jfu {w wr : World} {ρ : Nat → jw} {d nb sm n : Nat} {lv : Value} {T : je} {D : DataW Nat} (R : Rep w ρ d T)
   (hd : w.heap[d]? = some (.cells #[.map (some nb), .map (some sm), lv, .int .i64 T.calls, .int .i64 T.fail, .int .i64 T.cut, .int .i64 T.wrote] 101 (0, 0)))
   (rn : ρ nb = .names) (rs : ρ sm = .safe) (on : w.ownsMap Tryz.prog 9 Jc nb (Maps.size T.names) T.names) (hown : wr.ownsMap Tryz.prog 9 Jc sm n D) (hk : ja w wr (fun i => i = sm)) (hL : df D T.files) :
   Rep (wr.setCell ⟨d, 2, none⟩ (.slice none 0 0)) ρ d { T with safe := D, late := [] } ∧ yf w ρ (wr.setCell ⟨d, 2, none⟩ (.slice none 0 0)) ρ := by
 have rd := R.disk
 have hsd : sm ≠ d := fun e => by rw [e, rd] at rs; cases rs
 have hk2 : ja w (wr.setCell ⟨d, 2, none⟩ (.slice none 0 0)) (fun i => i = sm ∨ i = d) := (hk.mono (fun _ _ h => .inl h)).set (.inr rfl) _
 have hT : ∀ i, ρ i ≠ .safe → ρ i ≠ .disk → ¬ (i = sm ∨ i = d) := by
   rintro i h1 h2 (e | e)
   · exact h1 (e ▸ rs)
   · exact h2 (e ▸ rd)
 refine ⟨⟨⟨nb, sm, .slice none 0 0, ?_, rn, rs, hk2.map on (hT nb (by rw [rn]; decide) (by rw [rn]; decide)), tight (hown.setCell hsd _), World.ownsRow_nil _ _ _ _, fun g hg => (by cases hg)⟩, rd, ?_, R.Jj, hL, fun c hc => (by cases hc), fun i hi => Nat.lt_of_lt_of_le (R.lt i hi) hk2.size, R.jg8, R.jhm⟩, yf.of hk2 ?_⟩
 · rw [jb (hk.same hd hsd.symm)]; rfl
 · intro f a hf
   have hfo := R.files f a hf
   exact hfo.keep hk2 (fun _ _ => rfl) (hT f (by rw [hfo.1]; decide) (by rw [hfo.1]; decide)) (fun i hi => hT i (by rw [hi]; exact fun h => by cases h) (by rw [hi]; exact fun h => by cases h)) (fun i hi => hT i (by rw [hi]; exact fun h => by cases h) (by rw [hi]; exact fun h => by cases h))
 · rintro i _ (e | e)
   · rw [e, rs]; decide
   · rw [e, rd]; decide
set_option maxHeartbeats 1000000 in
set_option maxRecDepth 100000 in
theorem Pg {w : World} {ρ : Nat → jw} {d : Nat} {S : je} (R : Rep w ρ d S) (hB : S.bad = false) (hz : Maps.size S.safe + S.late.length < 1099511627776) :
   Calls Tryz.prog 197 #[.pointer (some ⟨d, 0, none⟩)] w fun e w' => e = .returned (.int .i64 0) ∧ ∃ ρ', yf w ρ w' ρ' ∧
     Rep w' ρ' d { S.called true with safe := (S.called true).late.foldl doA (S.called true).safe, late := [] } := by
 have hz1 : Maps.size (S.called true).safe + (S.called true).late.length < 1099511627776 := hz
 go_enter Tryz.func197, Tryz.ntmps197
 go_wp2_with fail
 refine (z8 true R).mono ?_
 rintro e w1 ⟨rfl, R1, G1⟩
 rw [hB]
 clear hz
 generalize hT : S.called true = T at *
 have HT := hide hT
 clear hT
 obtain ⟨nb, sm, lv, hd, rn, rs, on, os, ol, rl⟩ := R1.mem
 have c1 := cell_of_heap (o := 1) hd
 have c2 := cell_of_heap (o := 2) hd
 have f2 := frozen_of_heap (o := 2) hd
 simp at c1 c2
 have HD := hide hd
 have hdl := lt_of_heap hd
 clear hd
 obtain ⟨pl, cl, rfl⟩ := jh ol
 have hsd : sm ≠ d := fun e => by rw [e, R1.disk] at rs; cases rs
 go_wp2_with fail
 go_loopw [12] (fun i wr => ∃ k : Nat, k ≤ T.late.length ∧ i = .int .i64 k ∧ wr.ownsMap Tryz.prog 9 Jc sm (Maps.size T.safe + k) (o5 T.safe T.late k) ∧ ja w1 wr (fun i => i = sm))
   (fun i _ => T.late.length - (intOf i).toNat)
 case atStart => exact ⟨0, Nat.zero_le _, rfl, os, ja.refl _ _⟩
 case round =>
   obtain ⟨k, hk, rfl, hown, hkw⟩ := hrel
   have hd2 := hkw.same HD.out hsd.symm
   have b1 := cell_of_heap (o := 1) hd2
   have b2 := cell_of_heap (o := 2) hd2
   have g2 := frozen_of_heap (o := 2) hd2
   have b1a : ∀ x, (wr.alloc x).cell? ⟨d, 1, none⟩ = some (.map (some sm)) := fun x => (Xd (o := 1) hd2 x)
   simp at b1 b2
   have HD2 := hide hd2
   clear hd2
   by_cases hlt : k < T.late.length
   · rcases ol.2 with ⟨e, h0⟩ | ⟨g, cap, cur, e, _, hg, hcap, hcm, hcs, htk⟩
     · exfalso; have : T.late.length = 0 := h0; omega
     · cases e
       have hcells := ol.cells (g := g) rfl
       have hgs : ¬ g = sm := fun e => by have := rl g rfl; rw [e, rs] at this; cases this
       have hcell : ∀ i u, (qz [T.late[k]])[i]? = some u → i < 4 → wr.cell? ⟨g, k * 4 + i, none⟩ = some u := fun i u hu hi => by
         have := hcells (k * 4 + i) u ((Mc T.late k hlt i hi).trans hu)
         rw [add_zero] at this
         exact hkw.cell this hgs
       have e0 := hcell 0 _ rfl (by omega)
       have e1 := hcell 1 _ rfl (by omega)
       have e2 := hcell 2 _ rfl (by omega)
       have e3 := hcell 3 _ rfl (by omega)
       simp only [Nat.add_zero] at e0
       have hok := R1.jeq T.late[k] (List.getElem_mem hlt)
       have hsz := hkw.size
       have hsl : sm < wr.heap.size := hown.lt
       have HOK := hide hok
       clear hcells hcell hok hg htk hcs HD c1 c2 f2
       go_wp2_with fail
       go_region_with (go_at_call 81; refine (je3 sm (Maps.size T.safe + k) (o5 T.safe T.late k) T.late[k].make T.late[k].src T.late[k].dst T.late[k].f _ ?_ (by omega) HOK.out.1 HOK.out.2.1 HOK.out.2.2.1).mono ?_; exact hown.alloc _; rintro e w2 ⟨rfl, hown2, hk2⟩)
       all_goals
         have hk3 : ja w1 w2 (fun i => i = sm) := (hkw.more _).draw.trans hk2 (fun _ _ h => h)
         clear hk2 e0 e1 e2 e3 b1a
         go_wp2
         go_roundw
         case rel => exact ⟨k + 1, by omega, by go_num, by rw [Ty _ _ _ hlt]; exact hown2, hk3⟩
         case measure => simp [intOf]; omega
   · have hke : k = T.late.length := by omega
     subst hke
     have he : o5 T.safe T.late T.late.length = T.late.foldl doA T.safe := by unfold o5; rw [List.take_length]
     rw [he] at hown
     go_wp2
     go_ret
     obtain ⟨R2, G2⟩ := R1.jfu HD.out rn rs on hown hkw (Le T.late T.safe os.isMap R1.o5 R1.jeq)
     have hT := HT.out
     subst hT
     exact ⟨rfl, ρ, G1.trans G2, R2⟩
set_option maxRecDepth 100000 in
theorem Ti {w : World} {ρ : Nat → jw} {d : Nat} {S : je} (R : Rep w ρ d S) (hB : S.bad = true) :
   Calls Tryz.prog 197 #[.pointer (some ⟨d, 0, none⟩)] w fun e w' => e = .returned (.int .i64 1) ∧ yf w ρ w' ρ ∧ Rep w' ρ d (S.called true) := by
 go_enter Tryz.func197, Tryz.ntmps197
 go_wp2_with (go_at_call 102; refine (z8 true R).mono ?_; rintro e w1 ⟨rfl, R1, G1⟩)
 go_ret
 exact ⟨rfl, G1, R1⟩
set_option maxHeartbeats 4000000 in
set_option maxRecDepth 100000 in
theorem jdw (n : Int) (hn1 : 1099511627776 ≤ n) (hn2 : n ≤ 9223372036854775807) {w : World} {ρ : Nat → jw} {d : Nat} {S : je} (nm : Str) (R : Rep w ρ d S) (Z : Small S) (hn : nm.length < 1099511627776) (hB : S.bad = false) {f : Nat} {a : yw} (hA : S.at nm = some f) (ha : S.files f = some a) :
   Calls Tryz.prog 176 #[.pointer (some ⟨d, 0, none⟩), jc nm, .int .i64 0, .int .i64 n] w fun e w' => yf w ρ w' ρ ∧ Rep w' ρ d (S.called false) ∧
     ∃ p' c, e = .returned (.tuple #[.slice p' a.bytes.length c, .int .i64 0]) ∧ w'.ownsRow w.heap.size 5 1 (.slice p' a.bytes.length c) a.bytes.length (a.bytes.map qg) := by
 have hkey := Yz hn
 have hz := (Z.files f a ha).1
 have HA := hide hA
 have HF := hide ha
 clear hA ha
 go_enter Tryz.func176, Tryz.ntmps176
 go_wp2_with fail
 refine (z8 false R).mono ?_
 rintro e w1 ⟨rfl, R1, G1⟩
 obtain ⟨nb, sm, lv, hd, rn, rs, on, _⟩ := R1.mem
 have c0 := cell_of_heap (o := 0) hd
 simp at c0
 clear hd
 obtain ⟨rf, bv, pv, hc, hb, rb, hpp, rp⟩ := R1.files f a HF.out
 have b0 := cell_of_heap (o := 0) hc
 simp at b0
 clear hc
 have hrd := Dw hb
 obtain ⟨pb, cb, rfl⟩ := jh hb
 have hcb : a.bytes.length ≤ cb := by
   rcases hb.2 with ⟨e, h0⟩ | ⟨g, cap, cur, e, _, _, h1, _⟩
   · injection e with e1 e2 e3; omega
   · injection e with e1 e2 e3; omega
 have hlt : (a.bytes.length : Int) < n := by omega
 have hn0 : ¬ n < 0 := by omega
 have hw1 : IntKind.i64.wrap (a.bytes.length : Int) = (a.bytes.length : Int) := wrap_i64 (by omega) (by omega)
 have ha2 : (a.bytes.length : Int) ≤ (cb : Int) := by omega
 clear hb
 go_wp2_with (first
   | (at_lookup; refine xq _ rfl _ _ rfl nb _ _ rfl on _ _ rfl hkey (.pointer (some ⟨f, 0, none⟩)) (congrArg ig HA.out) ?_)
   | go_in)
 go_region_with (go_at_call 85; refine (Oy w1.drew _ a.bytes hz (by exact hrd)).mono ?_; rintro e w2 ⟨p1, c1, rfl, hown1, k1⟩)
 all_goals
   go_wp2
   go_ret2
   exact ⟨G1.trans (yf.of ((ja.drew w1 _).trans k1 (fun _ _ h => h)) (fun _ _ h => h.elim)), R1.keep ((ja.drew w1 (fun _ => False)).trans k1 (fun _ _ h => h)) (fun _ h => h.elim), p1, c1, rfl, xx hown1 G1.keeps.size⟩
def sentinels : List Nat := [7, 8, 4, 3, 2, 1, 0]
structure Q0 (E : Nat → Addr) (B : Nat) (w : World) : Prop where
 cell : ∀ g ∈ sentinels, w.cell? ⟨g, 0, none⟩ = some (.iface 371 (.pointer (some (E g))))
 lt : ∀ g ∈ sentinels, g < B
 block : ∀ g ∈ sentinels, ∃ c t, w.heap[(E g).block]? = some (.cells c t (0, 0))
 jbq : ∀ g ∈ sentinels, (E g).block < B
 spot : ∀ g ∈ sentinels, (E g).spot = none
 apart : ∀ g ∈ sentinels, ∀ k ∈ sentinels, E g = E k → g = k
theorem Q0.keep {E : Nat → Addr} {B : Nat} {w w' : World} {T : Nat → Prop} (h : Q0 E B w) (hk : ja w w' T) (hT : ∀ i, T i → B ≤ i) : Q0 E B w' := by
 refine ⟨fun g hg => hk.cell (h.cell g hg) (fun ht => ?_), h.lt, fun g hg => ?_, h.jbq, h.spot, h.apart⟩
 · have h1 := hT _ ht
   have h2 := h.lt g hg
   simp only at h1
   omega
 · obtain ⟨c, t, hc⟩ := h.block g hg
   exact ⟨c, t, hk.same hc (fun ht => by have h1 := hT _ ht; have h2 := h.jbq g hg; omega)⟩
theorem Q0.same {E : Nat → Addr} {B : Nat} {w w' : World} (h : Q0 E B w) (hk : ja w w' (fun _ => False)) : Q0 E B w' := h.keep hk (fun _ h => h.elim)
def jhp (E : Nat → Addr) (w : World) (k : Nat) : Nat → Value → Prop
 | 0, v => k ∈ sentinels ∧ v = .iface 371 (.pointer (some (E k)))
 | n + 1, v => ∃ (b : Nat) (s c : Value), v = .iface 246 (.pointer (some ⟨b, 0, none⟩)) ∧ w.heap[b]? = some (.cells #[s, c] 248 (0, 0)) ∧ (∀ a, c = .iface 246 (.pointer (some a)) → a.block < b) ∧ jhp E w k n c
def Err (E : Nat → Addr) (w : World) (v : Value) (k : Nat) : Prop := ∃ n, jhp E w k n v
theorem Err.base {E : Nat → Addr} {w : World} (k : Nat) (h : k ∈ sentinels) : Err E w (.iface 371 (.pointer (some (E k)))) k := ⟨0, h, rfl⟩
theorem Err.wrap {E : Nat → Addr} {w : World} (b : Nat) (s c : Value) (k : Nat) (hb : w.heap[b]? = some (.cells #[s, c] 248 (0, 0))) (hl : ∀ a, c = .iface 246 (.pointer (some a)) → a.block < b) (h : Err E w c k) : Err E w (.iface 246 (.pointer (some ⟨b, 0, none⟩))) k := by
 obtain ⟨n, h⟩ := h
 exact ⟨n + 1, b, s, c, rfl, hb, hl, h⟩
theorem Err.inv {E : Nat → Addr} {w : World} {v : Value} {k : Nat} (h : Err E w v k) : (k ∈ sentinels ∧ v = .iface 371 (.pointer (some (E k)))) ∨
   ∃ (b : Nat) (s c : Value), v = .iface 246 (.pointer (some ⟨b, 0, none⟩)) ∧ w.heap[b]? = some (.cells #[s, c] 248 (0, 0)) ∧ (∀ a, c = .iface 246 (.pointer (some a)) → a.block < b) ∧ Err E w c k := by
 obtain ⟨n, h⟩ := h
 cases n with
 | zero => exact .inl h
 | succ n =>
   obtain ⟨b, s, c, e, h1, h2, h3⟩ := h
   exact .inr ⟨b, s, c, e, h1, h2, n, h3⟩
theorem Err.elim {E : Nat → Addr} {w : World} {k : Nat} {M : Value → Prop} (h0 : k ∈ sentinels → M (.iface 371 (.pointer (some (E k)))))
   (h1 : ∀ (b : Nat) (s c : Value), w.heap[b]? = some (.cells #[s, c] 248 (0, 0)) → (∀ a, c = .iface 246 (.pointer (some a)) → a.block < b) → M c → M (.iface 246 (.pointer (some ⟨b, 0, none⟩)))) {v : Value} (h : Err E w v k) : M v := by
 obtain ⟨n, h⟩ := h
 induction n generalizing v with
 | zero => obtain ⟨hk, rfl⟩ := h; exact h0 hk
 | succ n ih =>
   obtain ⟨b, s, c, rfl, hb, hl, h⟩ := h
   exact h1 b s c hb hl (ih h)
theorem Err.keep {E : Nat → Addr} {w w' : World} {T : Nat → Prop} {v : Value} {k : Nat} (h : Err E w v k) (hk : ja w w' T) (hT : ∀ i c, T i → w.heap[i]? ≠ some (.cells c 248 (0, 0))) : Err E w' v k :=
 Err.elim (M := fun v => Err E w' v k) (fun h => .base k h) (fun b s c hb hl ih => .wrap b s c k (hk.same hb (fun ht => hT b _ ht hb)) hl ih) h
theorem Err.same {E : Nat → Addr} {w w' : World} {v : Value} {k : Nat} (h : Err E w v k) (hk : ja w w' (fun _ => False)) : Err E w' v k := h.keep hk (fun _ _ h => h.elim)
theorem Err.shape {E : Nat → Addr} {w : World} {v : Value} {k : Nat} (h : Err E w v k) : ∃ t a, v = .iface t (.pointer (some a)) := by
 rcases h.inv with ⟨_, rfl⟩ | ⟨b, s, c, rfl, _⟩
 · exact ⟨_, _, rfl⟩
 · exact ⟨_, _, rfl⟩
theorem Err.lt {E : Nat → Addr} {w : World} {v : Value} {k : Nat} (h : Err E w v k) : ∀ a, v = .iface 246 (.pointer (some a)) → a.block < w.heap.size := by
 intro a e
 rcases h.inv with ⟨_, rfl⟩ | ⟨b, s, c, rfl, hb, _⟩
 · cases e
 · cases e; exact lt_of_heap hb
set_option maxRecDepth 100000 in
theorem Ja {E : Nat → Addr} {w : World} {v : Value} {k : Nat} (s : ByteArray) (h : Err E w v k) :
   Calls Tryz.prog 128 #[.string s, v] w fun e w' => ∃ v', e = .returned v' ∧ Err E w' v' k ∧ ja w w' (fun _ => False) := by
 obtain ⟨t, a, rfl⟩ := h.shape
 go_enter Tryz.func128, Tryz.ntmps128
 go_wp2
 go_ret
 exact ⟨_, rfl, .wrap _ _ _ _ (jd w _) h.lt (h.same (ja.alloc w _ _)), ja.alloc w _ _⟩
end Go.Proofs.YtnipbplghijdmaaGreatDoor
