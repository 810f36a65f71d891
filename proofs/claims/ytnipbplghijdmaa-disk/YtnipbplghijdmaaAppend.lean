/-
  Append of the disk, over a disk that is as told.
-/
import Derived.Test.YtnipbplghijdmaaPutRep
import Derived.Test.YtnipbplghijdmaaRange
namespace Go.Proofs.Ytnipbplghijdmaa
open Go.RowKit Go.Maps Go.WideShapes
set_option linter.unusedVariables false

theorem arg_half {w : World} {ρ : Nat → Role} {ad : Addr} {c : Nat} {src : List UInt8} (hr : ρ ad.block = .none) (hc : src.length ≤ c) (hcell : ∀ j u, (src.map byteV)[j]? = some u → w.cell? (ad.add j) = some u) (k : Nat) (hk : k ≤ src.length) :
    Arg w ρ (.slice (some ad) k c) (src.take k) := by
  have hl : (src.take k).length = k := by simp; omega
  refine .inr ⟨ad, c, by rw [hl], by omega, hr, fun j u hu => hcell j u ?_⟩
  rw [List.getElem?_map] at hu ⊢
  rw [List.getElem?_take] at hu
  split at hu
  · exact hu
  · simp at hu

theorem Arg.keep {w w' : World} {ρ ρ' : Nat → Role} {v : Value} {l : List UInt8} {T : Nat → Prop} (h : Arg w ρ v l) (hk : Keeps w w' T) (hT : ∀ i, i < w.heap.size → ρ i = .none → ¬ T i) (hρ : ∀ i, ρ i = .none → i < w.heap.size → ρ' i = .none) (hpos : 0 < l.length) : Arg w' ρ' v l := by
  rcases h with ⟨_, rfl⟩ | ⟨ad, c, e, hc, hr, hcell⟩
  · simp at hpos
  · have hlt : ad.block < w.heap.size := by
      have h0 := hcell 0 (byteV l[0]) (by simp [List.getElem?_eq_getElem hpos])
      have := World.block_lt_of_cell? w _ h0
      rwa [add_block] at this
    refine .inr ⟨ad, c, e, hc, hρ _ hr hlt, fun j u hu => hk.cell (hcell j u hu) (by rw [add_block]; exact hT _ hlt hr)⟩

set_option maxHeartbeats 4000000 in
theorem append_some {w : World} {ρ : Nat → Role} {d : Nat} {S : DiskA} (nm : Str) (src : List UInt8) (ad : Addr) (c : Nat) (R : Rep w ρ d S) (Z : Small S) (hn : nm.length < 1099511627776) {f : Nat} {a : FileA} (hA : S.at nm = some f) (ha : S.files f = some a)
    (hpos : 0 < src.length) (hsl : src.length < 1099511627776) (hv : Arg w ρ (.slice (some ad) src.length c) src) (hc : src.length ≤ c) (hcm : c ≤ maxLen) (htot : total S.files S.names < 1099511627776) :
    Calls Try.prog 6 #[.pointer (some ⟨d, 0, none⟩), strV nm, .slice (some ad) src.length c] w fun e w' => ∃ ρ', Grew w ρ w' ρ' ∧
      (((S.bad = true ∨ 20000 < src.length + total S.files S.names) ∧ e = .returned (.int .i64 1) ∧ Rep w' ρ' d ((S.called true).withFile f (a.put (src.take (src.length / 2))))) ∨
       (S.bad = false ∧ src.length + total S.files S.names ≤ 20000 ∧ e = .returned (.int .i64 0) ∧ Rep w' ρ' d ((S.called true).withFile f (a.put src)))) := by
  have hkey := key_str hn
  have HA := hide hA
  have HF := hide ha
  clear hA ha
  have hB : S.bad = true ∨ S.bad = false := by cases S.bad <;> simp
  have hO : 20000 < src.length + total S.files S.names ∨ ¬ 20000 < src.length + total S.files S.names := by omega
  unfold maxLen at hcm
  go_enter Try.func6, Try.ntmps6
  go_wp2_with fail
  refine (call_any true R).mono ?_
  rintro e w1 ⟨rfl, R1, G1⟩
  obtain ⟨nb, sm, lv, hd, rn, rs, on, _⟩ := R1.mem
  have c0 := cell_of_heap (o := 0) hd
  simp at c0
  have HD := hide hd
  clear hd
  have hv1 : Arg w1 ρ (.slice (some ad) src.length c) src := hv.keep G1.keeps (fun i _ h1 h2 => h2 h1) (fun _ h _ => h) hpos
  have hL := R1.namesTo
  have hCan := on.canon law
  have hTidy := on.tidy law
  have hz := (Z.called true).files
  clear hv
  go_wp2_with (first
    | (at_lookup; refine wpList_lookup_file _ rfl _ _ rfl nb _ _ rfl on _ _ rfl hkey (.pointer (some ⟨f, 0, none⟩)) (congrArg ptrV HA.out) ?_)
    | (at_range; refine wpList_range_own _ rfl _ 42 rfl 9 48 law Try.underlying42 _ nb _ _ rfl on ?_; intro w0 hrg0 hg0 hs0)
    | go_in)
  go_frame
  go_loopw [9] (fun v wr => ∃ (left : Lit → Bool) (cnt : Nat), wr.ranges Try.prog 9 fileElem nb w1.heap.size (Maps.size (S.called true).names) (S.called true).names left cnt ∧
      v = .int .i64 ((src.length : Int) + (sumTo S.files S.names left : Int)) ∧ Keeps w1 wr (fun _ => False))
    (fun _ wr => wr.rangeLeft nb w1.heap.size)
  case atStart => exact ⟨_, _, hrg0, by rw [show sumTo S.files S.names (Maps.has (S.called true).names) = 0 from sumTo_start hCan]; simp, Keeps.grown hg0 |>.mono (fun _ _ h => by simp at h)⟩
  case round =>
    obtain ⟨left, cnt, hrg, rfl, hkw⟩ := hrel
    have hle := sumTo_le (fs := S.files) (D := S.names) left
    go_wp2_with (first
      | (at_next; refine wpList_next_files _ rfl _ rfl nb w1.heap.size _ _ _ _ rfl hrg hL ?_ ?_)
      | go_in)
    · intro hc0 hl0
      have he : sumTo S.files S.names left = total S.files S.names := sumTo_end hl0
      have Rr : Rep wr ρ d (S.called true) := R1.keep hkw (fun _ h => h.elim)
      have Gr : Grew w ρ wr ρ := G1.trans (Grew.of hkw (fun _ _ h => h.elim))
      have hvr : Arg wr ρ (.slice (some ad) src.length c) src := hv1.keep hkw (fun _ _ _ h => h) (fun _ h _ => h) hpos
      have hfr : (S.called true).files f = some a := HF.out
      clear hrg hL hCan hTidy hz hrg0 hg0 hs0 hle hc0 hl0
      have hcell : Hid (ρ ad.block = .none ∧ ∀ j u, (src.map byteV)[j]? = some u → wr.cell? (ad.add j) = some u) := by
        rcases hvr with ⟨e, _⟩ | ⟨ad', c', e, _, hr, hcc⟩
        · cases e
        · cases e; exact ⟨hr, hcc⟩
      rcases hB with hB | hB
      · go_wp2_with (go_at_call 21; refine (put_any Rr (Z.called true) hfr (src.take (src.length / 2)) (by simp; omega) _ (arg_half hcell.out.1 hc hcell.out.2 _ (by omega))).mono ?_; rintro e w3 ⟨rfl, ρ3, R3, G3⟩)
        go_ret
        exact ⟨ρ3, Gr.trans G3, .inl ⟨.inl hB, rfl, R3⟩⟩
      · rcases hO with hO | hO
        · have hO' : (20000 : Int) < (src.length : Int) + (total S.files S.names : Int) := by omega
          go_wp2_with (go_at_call 21; refine (put_any Rr (Z.called true) hfr (src.take (src.length / 2)) (by simp; omega) _ (arg_half hcell.out.1 hc hcell.out.2 _ (by omega))).mono ?_; rintro e w3 ⟨rfl, ρ3, R3, G3⟩)
          go_ret
          exact ⟨ρ3, Gr.trans G3, .inl ⟨.inr hO, rfl, R3⟩⟩
        · have hO' : ¬ (20000 : Int) < (src.length : Int) + (total S.files S.names : Int) := by omega
          go_wp2_with (go_at_call 21; refine (put_any Rr (Z.called true) hfr src hsl _ hvr).mono ?_; rintro e w3 ⟨rfl, ρ3, R3, G3⟩)
          go_ret
          exact ⟨ρ3, Gr.trans G3, .inr ⟨hB, by omega, rfl, R3⟩⟩
    · intro x f' w2 cnt2 hxl hlk fa hfa hat hrg2 hlt hg2 hs2 hen
      have hst : sumTo S.files S.names (fun z => left z && !z.sameKey (.string x)) = sumTo S.files S.names left + fa.bytes.length := sumTo_step hTidy hlk hat hfa
      have hle2 := sumTo_le (fs := S.files) (D := S.names) (fun z => left z && !z.sameKey (.string x))
      have hb2 : sumTo S.files S.names left + fa.bytes.length ≤ total S.files S.names := by rw [← hst]; exact hle2
      have HS := hide hst
      clear hst hle2
      have hk2 : Keeps w1 w2 (fun _ => False) := hkw.trans (Keeps.grown hg2) (fun i hi e => (by have := Option.some.inj e; omega))
      obtain ⟨rf', bv', pv', hc', hb', rb', hp', rp'⟩ := R1.files f' fa hfa
      obtain ⟨pb', cb', rfl⟩ := slice_of_row hb'
      have b0 := cell_of_heap (o := 0) (hk2.same hc' id)
      simp at b0
      clear hs2 hc'
      go_wp2
      go_roundw
      case rel => exact ⟨_, cnt2, hrg2, by rw [HS.out]; push_cast; go_num, hk2⟩
      case measure => rw [hrg2.left_eq, hrg.left_eq]; exact hlt
end Go.Proofs.Ytnipbplghijdmaa
