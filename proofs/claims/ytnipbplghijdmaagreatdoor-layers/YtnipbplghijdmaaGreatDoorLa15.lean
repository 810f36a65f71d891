/-
  La: Is.
-/
import Derived.LaidEql
import Derived.Stop.Asserts
import Derived.Test.YtnipbplghijdmaaGreatDoorLa07
namespace Go.Proofs.YtnipbplghijdmaaGreatDoor
open Go.RowKit Go.Maps Go.WideShapes Go.Extern
set_option linter.unusedVariables false
theorem jax (v : Value) (w : World) : (callFunc 156 #[.iface 371 v]).run Tryz.prog w = .ok (.value (.iface 263 (.agg #[.pointer (some ⟨11, 371, none⟩)]))) w := by kernel_rfl
theorem Me (w : World) : (callFunc 307 #[.agg #[.pointer (some ⟨11, 371, none⟩)]]).run Tryz.prog w = .ok (.value (.bool true)) w := by kernel_rfl
theorem jg6 : (Tryz.prog.info? 371).map (·.comparable) = some true := by kernel_rfl
theorem jg5 : (Tryz.prog.info? 393).map (·.size) = some 1 := by kernel_rfl
theorem jhk (v : Value) (xT : TypeId) (w : World) : (Instr.typeAssert (.iface 371 v) xT 265 true).run Tryz.prog w = .ok (.tuple #[.nilIface, .bool false]) w := run_typeAssert_lacksB Tryz.underlying265 (by kernel_rfl) (by kernel_rfl) v xT w
theorem jcb (v : Value) (xT : TypeId) (w : World) : (Instr.typeAssert (.iface 371 v) xT 268 true).run Tryz.prog w = .ok (.tuple #[.nilIface, .bool false]) w := run_typeAssert_lacksB Tryz.underlying268 (by kernel_rfl) (by kernel_rfl) v xT w
theorem Wt (v : Value) (xT : TypeId) (w : World) : (Instr.typeAssert (.iface 371 v) xT 269 true).run Tryz.prog w = .ok (.tuple #[.nilIface, .bool false]) w := run_typeAssert_lacksB Tryz.underlying269 (by kernel_rfl) (by kernel_rfl) v xT w
theorem jhj (v : Value) (xT : TypeId) (w : World) : (Instr.typeAssert (.iface 246 v) xT 265 true).run Tryz.prog w = .ok (.tuple #[.nilIface, .bool false]) w := run_typeAssert_lacksB Tryz.underlying265 (by kernel_rfl) (by kernel_rfl) v xT w
theorem jaj (v : Value) (xT : TypeId) (w : World) : (Instr.typeAssert (.iface 246 v) xT 268 true).run Tryz.prog w = .ok (.tuple #[.iface 246 v, .bool true]) w := run_typeAssert_hasB Tryz.underlying268 (by kernel_rfl) v xT w
theorem Rk (v : Value) (w : World) : (Go.method 505 246 v "Unwrap").run Tryz.prog w = .ok (303, v) w := by kernel_rfl
theorem Fj (v : Value) (w : World) : (Go.method 505 263 v "Comparable").run Tryz.prog w = .ok (307, v) w := by kernel_rfl
def Lt : Value → Nat
 | .iface t (.pointer (some a)) => if t = 246 then a.block + 1 else 0
 | _ => 0
set_option maxRecDepth 100000 in
theorem V8 {w : World} {b : Nat} {s c : Value} (h : w.heap[b]? = some (.cells #[s, c] 248 (0, 0))) (hc : ∃ t a, c = .iface t (.pointer (some a))) :
   Calls Tryz.prog 303 #[.pointer (some ⟨b, 0, none⟩)] w fun e w' => e = .returned c ∧ w' = w := by
 obtain ⟨t, a, rfl⟩ := hc
 have c1 := cell_of_heap (o := 1) h
 simp at c1
 clear h
 go_enter Tryz.func303, Tryz.ntmps303
 go_wp2
 go_ret
 exact ⟨rfl, rfl⟩
set_option maxHeartbeats 1000000 in
set_option maxRecDepth 100000 in
theorem jet {E : Nat → Addr} {B : Nat} {w : World} {v : Value} {k : Nat} (S : Q0 E B w) (h : Err E w v k) (g : Nat) (hg : g ∈ sentinels) :
   Calls Tryz.prog 157 #[v, .iface 371 (.pointer (some (E g))), .bool true] w fun e w' => e = .returned (.bool (decide (k = g))) ∧ w' = w := by
 obtain ⟨i, hi, hcmp⟩ := Option.map_eq_some_iff.1 jg6
 obtain ⟨j, hj, hjs⟩ := Option.map_eq_some_iff.1 jg5
 have nE := jhk
 have uE := jcb
 have vE := Wt
 have nF := jhj
 have uF := jaj
 go_enter Tryz.func157, Tryz.ntmps157
 go_wp2_with fail
 go_loopw [0] (fun u wr => Err E w u k ∧ wr = w) (fun u _ => Lt u)
 case atStart => exact ⟨h, rfl⟩
 case round =>
   obtain ⟨hu, rfl⟩ := hrel
   rcases hu.inv with ⟨hk, rfl⟩ | ⟨b, s, c, rfl, hb, hl, hc⟩
   · rcases Classical.em (k = g) with rfl | hne
     · have heq := run_eql_iface_ptr_same (P := Tryz.prog) wr (E k) Tryz.underlying128 Tryz.underlying371 hi hcmp hj
       go_wp2
       go_ret
       exact ⟨by simp, rfl⟩
     · obtain ⟨ca, ta, ha⟩ := S.block k hk
       obtain ⟨cb, tb, hb⟩ := S.block g hg
       have heq := run_eql_iface_ptr_other (P := Tryz.prog) wr Tryz.underlying128 Tryz.underlying371 hi hcmp hj (by rw [hjs]; decide) (fun e => hne (S.apart k hk g hg e)) ha hb
       clear ha hb
       go_wp2
       go_ret
       exact ⟨by simp [hne], rfl⟩
   · have hty := run_eql_iface_types (P := Tryz.prog) 246 371 (.pointer (some ⟨b, 0, none⟩)) (.pointer (some (E g))) Tryz.underlying128 (by decide) wr
     have mU := Rk
     obtain ⟨t, a, rfl⟩ := hc.shape
     have hd : Lt (.iface t (.pointer (some a))) < b + 1 := by
       show (if t = 246 then a.block + 1 else 0) < b + 1
       split
       · rename_i ht
         have := hl a (by rw [ht])
         omega
       · omega
     have HD := hide hd
     clear hd hl
     go_wp2_with (go_at_call 303; refine (V8 hb ⟨t, a, rfl⟩).mono ?_; rintro e w' ⟨rfl, rfl⟩)
     exact ⟨⟨hc, trivial⟩, by simpa [Lt] using HD.out⟩
set_option maxRecDepth 100000 in
theorem jg4 {E : Nat → Addr} {B : Nat} {w : World} {v : Value} {k : Nat} (S : Q0 E B w) (h : Err E w v k) (g : Nat) (hg : g ∈ sentinels) :
   Calls Tryz.prog 109 #[v, .iface 371 (.pointer (some (E g)))] w fun e w' => e = .returned (.bool (decide (k = g))) ∧ w' = w := by
 have tT := jax
 have cT := Me
 have mR := Fj
 obtain ⟨t, a, rfl⟩ := h.shape
 go_enter Tryz.func109, Tryz.ntmps109
 go_wp2_with (go_at_call 157; refine (jet S h g hg).mono ?_; rintro e w' ⟨rfl, rfl⟩)
 go_ret
 exact ⟨rfl, rfl⟩
set_option maxRecDepth 100000 in
theorem jg3 (a : Addr) (w : World) : Calls Tryz.prog 109 #[.nilIface, .iface 371 (.pointer (some a))] w fun e w' => e = .returned (.bool false) ∧ w' = w := by
 have hn := run_eql_iface_nil_left (P := Tryz.prog) w 371 (.pointer (some a)) Tryz.underlying128
 go_enter Tryz.func109, Tryz.ntmps109
 go_wp2
 go_ret
 exact ⟨rfl, rfl⟩
end Go.Proofs.YtnipbplghijdmaaGreatDoor
