/-
  La: Copy.
-/
import Derived.Laws.CopyRow
import Derived.Test.YtnipbplghijdmaaGreatDoorLa10
namespace Go.Proofs.YtnipbplghijdmaaGreatDoor
open Go.RowKit Go.Maps Go.WideShapes
set_option linter.unusedVariables false
theorem Gd {P : Program} (w : World) (dT sT ty elem : TypeId) (g o dLen dCap : Nat) (a : Addr) (sLen sCap : Nat) (cur : Array Value) (t : TypeId) (cs : List Value) (n size : Nat)
   (hu : P.underlying dT = some (.slice elem)) (hs : (P.info? elem).map (·.size) = some size)
   (hg : w.heap[g]? = some (.cells cur t (0, 0))) (hn : n = Nat.min sLen dLen) (hl : cs.length = n * size)
   (hsrc : ∀ j v, cs[j]? = some v → w.cell? (a.add j) = some v) (hfit : o + cs.length ≤ cur.size) (h1 : ∀ v ∈ cs, v.oneCell' = true) :
   (Builtin.copy_ #[dT, sT] ty #[.slice (some ⟨g, o, none⟩) dLen dCap, .slice (some a) sLen sCap]).run P w =
     .ok (goInt n) (w.setRow g (cur.toList.take o ++ cs ++ cur.toList.drop (o + cs.length)).toArray) := by
 have hld := run_loadCells_list (P := P) w a cs hsrc
 have hst := run_storeCells_at P g o t cs 0 cur w hg (by simpa using hfit) h1
 cases hq : P.info? elem with
 | none => simp [hq] at hs
 | some i =>
   have hi : i.size = size := by simpa [hq] using hs
   simp [Builtin.copy_, run_underlying hu, Builtin.lenOf, Builtin.firstCells, sizeOf, typeInfo, hq, hi, ← hn, ← hl, hld, hst]
def ja5 (w : World) (g o : Nat) (cur : Array Value) (t : TypeId) (cs : List Value) (w' : World) : Prop :=
 w'.heap[g]? = some (.cells (cur.toList.take o ++ cs ++ cur.toList.drop (o + cs.length)).toArray t (0, 0)) ∧ ja w w' (fun i => i = g)
theorem Lx {w : World} {g o : Nat} {cur : Array Value} {t : TypeId} {cs : List Value} (hg : w.heap[g]? = some (.cells cur t (0, 0))) :
   ja5 w g o cur t cs (w.setRow g (cur.toList.take o ++ cs ++ cur.toList.drop (o + cs.length)).toArray) :=
 ⟨setRow_heap w g cur _ t _ hg, ⟨rfl, rfl, rfl, by simp [World.setRow], fun k _ hk => setRow_other w g k _ hk⟩⟩
theorem vg {P : Program} {w : World} {ops : Array Oper} {rest : List Oper} {o : Oper} {a : Act} {Q : Exit → Act → World → Prop} (hgd : o.guard = none) (d s : Operand) (dT sT : TypeId)
   (ho : o.op = .call { callee := .builtin .copy, args := #[d, s], argTypes := #[dT, sT] }) (elem : TypeId) (size : Nat) (hu : P.underlying dT = some (.slice elem)) (hsz : (P.info? elem).map (·.size) = some size)
   (g off dLen dCap : Nat) (ad : Addr) (sLen sCap : Nat) (hd : a.eval d = .slice (some ⟨g, off, none⟩) dLen dCap) (hs : a.eval s = .slice (some ad) sLen sCap)
   (cur : Array Value) (t : TypeId) (hg : w.heap[g]? = some (.cells cur t (0, 0))) (cs : List Value) (n : Nat) (hn : n = Nat.min sLen dLen) (hl : cs.length = n * size)
   (hsrc : ∀ j v, cs[j]? = some v → w.cell? (ad.add j) = some v) (hfit : off + cs.length ≤ cur.size) (h1 : ∀ v ∈ cs, v.oneCell' = true)
   (h : ∀ w', ja5 w g off cur t cs w' → wpList P ops Q rest (a.put o.dst (goInt n)) w') : wpList P ops Q (o :: rest) a w := by
 refine wpList_plain hgd fun K hK => ?_
 have hrun := Gd (P := P) w dT sT o.type elem g off dLen dCap ad sLen sCap cur t cs n size hu hsz hg hn hl hsrc hfit h1
 unfold Oper.wp
 simp [execOp, ho, resolve, invoke, builtin, hd, hs, hrun, Result.andThen]
 have hc := Lx (o := off) (cs := cs) hg
 simp only [List.append_assoc] at hc
 exact hK _ _ (h _ hc)
theorem Dr {P : Program} {ops : Array Oper} {o : Oper} {a : Act} {w : World} {K : Act → World → Prop} {Q : Exit → Act → World → Prop} {E : Prop} (hgd : o.guard = none) (d s : Operand) (dT sT : TypeId)
   (ho : o.op = .call { callee := .builtin .copy, args := #[d, s], argTypes := #[dT, sT] }) (elem : TypeId) (size : Nat) (hu : P.underlying dT = some (.slice elem)) (hsz : (P.info? elem).map (·.size) = some size)
   (g off dLen dCap : Nat) (ad : Addr) (sLen sCap : Nat) (hd : a.eval d = .slice (some ⟨g, off, none⟩) dLen dCap) (hs : a.eval s = .slice (some ad) sLen sCap)
   (cur : Array Value) (t : TypeId) (hg : w.heap[g]? = some (.cells cur t (0, 0))) (cs : List Value) (n : Nat) (hn : n = Nat.min sLen dLen) (hl : cs.length = n * size)
   (hsrc : ∀ j v, cs[j]? = some v → w.cell? (ad.add j) = some v) (hfit : off + cs.length ≤ cur.size) (h1 : ∀ v ∈ cs, v.oneCell' = true)
   (h : ∀ w', ja5 w g off cur t cs w' → K (a.put o.dst (goInt n)) w') :
   if Region.wanted o (yielded ops a.tmps) = true then Oper.wp P o a w K Q else E := by
 have hw : Region.wanted o (yielded ops a.tmps) = true := by simp [Region.wanted, hgd]
 rw [if_pos hw]
 have hrun := Gd (P := P) w dT sT o.type elem g off dLen dCap ad sLen sCap cur t cs n size hu hsz hg hn hl hsrc hfit h1
 unfold Oper.wp
 simp [execOp, ho, resolve, invoke, builtin, hd, hs, hrun, Result.andThen]
 have hc := Lx (o := off) (cs := cs) hg
 simp only [List.append_assoc] at hc
 exact h _ hc
def jhd (w : World) (e : TypeId) (size n m : Nat) (xs : List Value) (cap : Nat) (w' : World) : Prop :=
 n + m ≤ cap ∧ cap ≤ maxLen ∧ (∃ cur, w'.heap[w.heap.size]? = some (.cells cur e (0, 0)) ∧ cur.size = cap * size ∧ cur.toList.take (n * size) = xs) ∧ ja w w' (fun _ => False)
theorem wy {P : Program} (w : World) (t ti ty e : TypeId) (i : TypeInfo) (z : Value) (size bytes : Nat) (ht : P.underlying t = some (.slice e)) (hti : P.underlying ti = some (.int .i64)) (hi : P.info? e = some i) (hz : i.zero = some z) (hsize : i.size = size) (hby : i.bytes = bytes) (hzs : z.cells.size = size) (hsz : 0 < size) (hb1 : 1 ≤ bytes) (hb2 : bytes ≤ 64)
   (g n cap : Nat) (xs : List Value) (hxs : xs.length = n * size) (hcell : ∀ j u, xs[j]? = some u → w.cell? ((⟨g, 0, none⟩ : Addr).add j) = some u) (k : Nat) (hk1 : 0 < k) (hnk : n + k ≤ 1099511627776) (hcap : cap < n + k) :
   ∃ cap' w', (Builtin.append_ #[t, ti] ty #[.slice (some ⟨g, 0, none⟩) n cap, .int .i64 k]).run P w = .ok (.slice (some ⟨w.heap.size, 0, none⟩) (n + k) cap') w' ∧ jhd w e size n k xs cap' w' := by
 have hw : IntKind.i64.wrap (k : Int) = k := wrap_i64 (by omega) (by omega)
 have hk0 : ¬ (k : Int) < 0 := by omega
 have hk48 : ¬ (281474976710656 : Int) < (k : Int) * (bytes : Int) := by
   have h1 : k * bytes ≤ 1099511627776 * 64 := Nat.mul_le_mul (by omega) hb2
   have h2 : ((k * bytes : Nat) : Int) = (k : Int) * (bytes : Int) := by simp
   omega
 have hn : ¬ (n + k ≤ cap) := by omega
 have h63' : ¬ (9223372036854775807 < ((n : Int) + (k : Int))) := by omega
 have hfit : Builtin.nextslicecap (n + k) cap * bytes ≤ 281474976710656 := growslice_fits (by omega) (by
   have h1 : (n + k) * bytes ≤ 1099511627776 * 64 := Nat.mul_le_mul hnk hb2
   omega)
 have h48' : ¬ (281474976710656 < Builtin.nextslicecap (n + k) cap * bytes) := by omega
 subst hsize
 subst hby
 have hold := run_firstCells_some (P := P) w.drew i.size n ⟨g, 0, none⟩ n cap xs hxs hcell
 have hge := grownCap_ge w (n + k) cap e
 have hcm : grownCap w (n + k) cap e ≤ maxLen := grownCap_le_maxLen w (n + k) cap e (by unfold maxLen; omega)
 refine ⟨grownCap w (n + k) cap e, w.drew.alloc (.cells (xs.toArray ++ Builtin.zeroCells z.cells k ++ Builtin.zeroCells z.cells (grownCap w (n + k) cap e - (n + k))) e), ?_, hge, hcm, ⟨_, jd w.drew _, ?_, ?_⟩, ((ja.refl w _).draw).more _⟩
 · simp [Builtin.append_, run_underlying ht, run_underlying hti, sizeOf, typeInfo, zeroValue, hi, hz, asInt, asIntOf, hw, hk0, hk48, hn, h48', h63', Question.forced, hold, newRow, grownCap]
   intro h0
   have := Nat.mul_pos hk1 hsz
   omega
 · simp only [Array.size_append, List.size_toArray, size_zeroCells, hzs, hxs, ← Nat.add_mul]
   congr 1
   omega
 · simp only [Array.toList_append]
   rw [List.append_assoc, ← hxs]
   exact List.take_left
end Go.Proofs.YtnipbplghijdmaaGreatDoor
