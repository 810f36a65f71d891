/-
  Clone, Peek and Read of the disk, over a disk that is as told.
-/
import Derived.Test.YtnipbplghijdmaaOps2
import Derived.Lib.SliceRun
namespace Go.Proofs.Ytnipbplghijdmaa
open Go.RowKit Go.Maps Go.WideShapes
set_option linter.unusedVariables false

/-- A slice of bytes, as it reads. -/
def Reads (w : World) (v : Value) (l : List UInt8) : Prop :=
  (v = .slice none 0 0 ∧ l = []) ∨ ∃ ad c, v = .slice (some ad) l.length c ∧ ∀ j u, (l.map byteV)[j]? = some u → w.cell? (ad.add j) = some u

theorem reads_of_row {w : World} {base : Nat} {v : Value} {l : List UInt8} (h : w.ownsRow base 5 1 v l.length (l.map byteV)) : Reads w v l := by
  have h' := h
  rcases h.2 with ⟨e, h0⟩ | ⟨g, cap, cur, e, _⟩
  · exact .inl ⟨e, List.eq_nil_of_length_eq_zero h0⟩
  · refine .inr ⟨⟨g, 0, none⟩, cap, e, ?_⟩
    exact h'.cells (by rw [e]; rfl)

set_option maxHeartbeats 400000 in
theorem clone_any (w : World) (v : Value) (l : List UInt8) (hl : l.length < 1099511627776) (hv : Reads w v l) :
    Calls Try.prog 23 #[v] w fun e w' => ∃ p c, e = .returned (.slice p l.length c) ∧ w'.ownsRow w.heap.size 5 1 (.slice p l.length c) l.length (l.map byteV) ∧ Keeps w w' (fun _ => False) := by
  obtain ⟨j0, hj, hy0, hy1, hy2⟩ := info_parts Try.infoU8
  have q : ∀ (w : World) (a : Option Addr) (n c n' c' : Nat), (binOp .eql 27 (.slice a n c) (.slice none n' c')).run Try.prog w = .ok (.bool a.isNone) w := fun w a n c n' c' => Lib.run_eql_slice_nil w _ _ a n c n' c' Try.underlying27
  rcases hv with ⟨rfl, rfl⟩ | ⟨ad, c, rfl, hc⟩
  · go_enter Try.func23, Try.ntmps23
    go_wp2
    go_ret
    exact ⟨none, 0, rfl, World.ownsRow_nil _ _ _ _, Keeps.refl _ _⟩
  · have hown : (w.alloc (.cells #[] 5)).ownsRow w.heap.size 5 1 (.slice (some ⟨w.heap.size, 0, none⟩) 0 0) 0 [] := World.ownsRow_made w #[] 0 (Nat.le_refl _) (Nat.zero_le _) rfl
    have hc2 : ∀ j u, (l.map byteV)[j]? = some u → (w.alloc (.cells #[] 5)).cell? (ad.add j) = some u := fun j u hu => (Keeps.alloc w _ (fun _ => False)).cell (hc j u hu) id
    go_enter Try.func23, Try.ntmps23
    go_wp2_with (first | (at_builtin; refine wpList_append_own_sl _ rfl (.tmp 5) (.tmp 6) 27 rfl w.heap.size 5 j0 (.int .u8 0) 1 1 Try.underlying27 hj hy0 hy1 hy2 rfl (by decide) _ 0 [] rfl hown ad l.length c (l.map byteV) rfl (by simp) hc2 (bytes_one _) (by unfold maxLen; omega) (by omega) (by simp) ?_; intro p3 cp3 w3 hown3 hg3 hloc3; simp only [Nat.zero_add, List.nil_append] at hown3 hloc3 ⊢) | go_in)
    go_ret
    refine ⟨p3, cp3, rfl, hown3, ((Keeps.refl w _).more _).grow hg3 (fun k e hk => ?_)⟩
    have := Option.some.inj e
    simp only at this
    omega

/-! ### Peek -/
set_option maxHeartbeats 400000 in
theorem peek_any {w : World} {ρ : Nat → Role} {d : Nat} {S : DiskA} (nm : Str) (R : Rep w ρ d S) (Z : Small S) (hn : nm.length < 1099511627776) :
    Calls Try.prog 24 #[.pointer (some ⟨d, 0, none⟩), strV nm] w fun e w' => Keeps w w' (fun _ => False) ∧
      ((S.at nm = none ∧ e = .returned (.tuple #[.slice none 0 0, .bool false])) ∨
       (∃ f a p c, S.at nm = some f ∧ S.files f = some a ∧ e = .returned (.tuple #[.slice p a.bytes.length c, .bool true]) ∧ w'.ownsRow w.heap.size 5 1 (.slice p a.bytes.length c) a.bytes.length (a.bytes.map byteV))) := by
  have hkey := key_str hn
  have hAt : S.at nm = none ∨ ∃ f, S.at nm = some f := by cases S.at nm <;> simp
  obtain ⟨nb, sm, lv, hd, rn, rs, on, _⟩ := R.mem
  have c0 := cell_of_heap (o := 0) hd
  simp at c0
  clear hd
  rcases hAt with hA | ⟨f, hA⟩
  · have HA := hide hA
    clear hA
    go_enter Try.func24, Try.ntmps24
    go_wp2_with (first
      | (at_lookup; refine wpList_lookup_file _ rfl _ _ rfl nb _ _ rfl on _ _ rfl hkey (.pointer none) (congrArg ptrV HA.out) ?_)
      | go_in)
    go_ret2
    exact ⟨Keeps.refl _ _, .inl ⟨HA.out, rfl⟩⟩
  · obtain ⟨a, ha⟩ := R.at hA
    have HA := hide hA
    have HF := hide ha
    clear hA ha
    obtain ⟨rf, bv, pv, hc, hb, rb, hp, rp⟩ := R.files f a HF.out
    have hr := reads_of_row hb
    have hz := (Z.files f a HF.out).1
    have b0 := cell_of_heap (o := 0) hc
    simp at b0
    clear hc
    obtain ⟨pb, cb, rfl⟩ := slice_of_row hb
    go_enter Try.func24, Try.ntmps24
    go_wp2_with (first
      | (at_lookup; refine wpList_lookup_file _ rfl _ _ rfl nb _ _ rfl on _ _ rfl hkey (.pointer (some ⟨f, 0, none⟩)) (congrArg ptrV HA.out) ?_)
      | (go_at_call 23; refine (clone_any w _ a.bytes hz hr).mono ?_; rintro e w1 ⟨p1, c1, rfl, hown1, k1⟩)
      | go_in)
    go_ret2
    exact ⟨k1, .inr ⟨f, a, p1, c1, HA.out, HF.out, rfl, hown1⟩⟩
end Go.Proofs.Ytnipbplghijdmaa
